"""Sets of places as integers: one bit for each cell of a yard and of a margin about it.

A step or a sight moves all places of such a set at once, by a few shifts of the integer. The bits go from
south to north and then from west to east, so a cell to the east has a bit that is higher by the height."""

from slipsights.bounds import common, greater
from slipsights.plans import WAYS
from slipsights.runs import slip_range


class Grid:
    """The cells that the bits stand for."""

    def __init__(self, size, margin):
        self.size = size
        self.margin = margin
        self.height = size[1] + 2 * margin

    def number_of(self, cell):
        """The number of the bit of a cell."""
        return (cell[0] + self.margin) * self.height + cell[1] + self.margin

    def cell_at(self, number):
        """The cell with this bit."""
        return (number // self.height - self.margin, number % self.height - self.margin)

    def has(self, places, cell):
        """Whether a cell of the yard is one of the places."""
        return (places >> self.number_of(cell)) & 1 == 1

    def rectangle(self, low, high):
        """The cells of the grid whose numbers are from those of `low` to those of `high`."""
        beyond = self.margin - 1
        across = common((low[0], high[0]), (-self.margin, self.size[0] + beyond))
        upward = common((low[1], high[1]), (-self.margin, self.size[1] + beyond))
        if across[0] > across[1] or upward[0] > upward[1]:
            return 0
        corner = self.number_of((across[0], upward[0]))
        return swept(1 << corner, self.sweep((0, 0), (across[1] - across[0], upward[1] - upward[0])))

    def sweep(self, low, high):
        """How `swept` gets all sums of a place and a pair from `low` to `high`: a first shift, and more."""
        more = _doublings(high[0] - low[0], self.height) + _doublings(high[1] - low[1], 1)
        return (low[0] * self.height + low[1], more)

    def cells_of(self, places):
        """The list of the cells of a set."""
        return [self.cell_at(number) for number in numbers_of(places)]

    def corners(self, places):
        """The least numbers of the cells of a set that has some, and the greatest ones."""
        column = places
        for shift in _doublings(self.size[0] + 2 * self.margin - 1, self.height):
            column |= column >> shift
        column &= (1 << self.height) - 1
        low = (lowest_of(places) // self.height, lowest_of(column))
        high = ((places.bit_length() - 1) // self.height, column.bit_length() - 1)
        back = -self.margin
        return ((low[0] + back, low[1] + back), (high[0] + back, high[1] + back))


class Ground:
    """The sets of places that runs of a plan at a site need."""

    def __init__(self, site, plan):
        self.grid = Grid(site.size, _margin_of(site, plan))
        self.yard = self.grid.rectangle((0, 0), (site.size[0] - 1, site.size[1] - 1))
        self.rooms = {room.name: self.grid.rectangle(room.low, room.high) for room in site.rooms}
        self.marks = {mark.name: self.grid.rectangle(mark.low, mark.high) for mark in site.marks}
        self.free = self.yard
        for room in site.rooms:
            if room.barred:
                self.free &= ~self.rooms[room.name]
        x, y = plan.start
        self.start = self.grid.rectangle((x - plan.blur, y - plan.blur), (x + plan.blur, y + plan.blur))
        self.steps = {way: self._step_of(WAYS[way], site.slips) for way in WAYS}

    def _step_of(self, way, slips):
        low, high = slip_range(way, slips)
        return self.grid.sweep((way[0] + low[0], way[1] + low[1]), (way[0] + high[0], way[1] + high[1]))


def swept(places, sweep):
    """All sums of a place and a pair, of the pairs that the sweep was made for."""
    first, more = sweep
    places = places << first if first >= 0 else places >> -first
    for shift in more:
        places |= places << shift
    return places


def lowest_of(bits):
    """The number of the lowest bit of an integer that is not 0."""
    return (bits & -bits).bit_length() - 1


def numbers_of(bits):
    """The list of the numbers of all bits of an integer, the lowest one first."""
    numbers = []
    while bits > 0:
        numbers.append(lowest_of(bits))
        bits &= bits - 1
    return numbers


def _margin_of(site, plan):
    """How far beyond the yard a place or a belief comes by one pair."""
    margin = greater(plan.blur, 1)
    for slip in site.slips:
        margin = greater(margin, 1 + slip)
    for mark in site.marks:
        margin = greater(margin, mark.blur)
    return margin


def _doublings(many, unit):
    """The shifts that lead from one bit to so many more ones, each a unit further."""
    shifts = []
    done = 1
    while done <= many:
        more = done if done + done <= many + 1 else many + 1 - done
        shifts.append(more * unit)
        done += more
    return tuple(shifts)
