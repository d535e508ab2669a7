"""Sets of standings as few products of two spans, one in each direction."""

from slipsights.grids import lowest_of
from slipsights.planes import Plane


class Sheet:
    """A set of standings at one position: for sets of upward pairs the across pairs that go with all of them.

    The across pairs of any two of these are different ones, so the sets of upward pairs say all about theirs."""

    def __init__(self):
        self.parts = {}

    def take_in(self, across, upward):
        """Have all standings, too, with one of the across pairs and one of the upward ones."""
        more = {}
        rest = across
        for known, pairs in self.parts.items():
            both = pairs & across
            _put(more, known, pairs & ~both)
            _put(more, known | upward, both)
            rest &= ~pairs
        _put(more, upward, rest)
        self.parts = more

    def has_all(self, across, upward):
        """Whether it has all standings with one of the across pairs and one of the upward ones."""
        rest = across
        for known, pairs in self.parts.items():
            if pairs & across != 0 and upward & ~known != 0:
                return False
            rest &= ~pairs
        return rest == 0

    def across_of(self, upward):
        """The across pairs that go with all of these upward ones."""
        across = 0
        for known, pairs in self.parts.items():
            if upward & ~known == 0:
                across |= pairs
        return across


def planes_of(grid):
    """The planes for the two directions of a grid."""
    return (Plane(grid.size[0], grid.margin), Plane(grid.size[1], grid.margin))


def sheet_of(grid, planes, standings):
    """The sheet with standings that are told by a dict from beliefs to sets of places."""
    upward = {}
    for belief, places in standings.items():
        for x, column in _columns_of(grid, places):
            number = planes[0].number_of(belief[0], x)
            upward[number] = upward.get(number, 0) | column << (belief[1] * planes[1].width)
    sheet = Sheet()
    for number, pairs in upward.items():
        _put(sheet.parts, pairs, 1 << number)
    return sheet


def cover(planes, sheet):
    """A list of products, tuples of the bounds across and upward, that together have just what a sheet has."""
    products = []
    pieces = [(across, upward, upward) for upward, across in sheet.parts.items()]
    while len(pieces) > 0:
        across, upward, known = pieces[-1]
        up = planes[1].grown(known, lowest_of(upward))
        up_bits = planes[1].bits_of(up)
        over = planes[0].grown(sheet.across_of(up_bits), lowest_of(across))
        products.append((over, up))
        pieces = _less_product(pieces, planes[0].bits_of(over), up_bits)
    return products


def _less_product(pieces, over, up):
    """What is left of pieces, which are tuples of across pairs, of upward ones, and of all that go with these."""
    left = []
    for across, upward, known in pieces:
        if across & over == 0 or upward & up == 0:
            left.append((across, upward, known))
            continue
        if across & ~over != 0:
            left.append((across & ~over, upward, known))
        if upward & ~up != 0:
            left.append((across & over, upward & ~up, known))
    return left


def _columns_of(grid, places):
    """A list of the numbers x with a place, and for each the places there: a bit for each y of the grid."""
    columns = []
    x = lowest_of(places) // grid.height
    places >>= x * grid.height
    while places > 0:
        column = places & ((1 << grid.height) - 1)
        if column > 0:
            columns.append((x - grid.margin, column))
        places >>= grid.height
        x += 1
    return columns


def _put(parts, upward, across):
    if across != 0:
        parts[upward] = parts.get(upward, 0) | across
