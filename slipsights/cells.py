"""Finite sets of cells, and those where runs can end and wait."""

from slipsights.checks import is_cell, is_sequence
from slipsights.errors import InvalidCells, NoRow
from slipsights.runs import Course
from slipsights.waves import explored


class Cells:
    """A finite set of cells."""

    def __init__(self, cells=()):
        if not is_sequence(cells):
            raise InvalidCells(0)
        for at, cell in enumerate(cells):
            if not is_cell(cell):
                raise InvalidCells(at)
        self._members = tuple(sorted(set(cells)))
        self._table = {cell: True for cell in self._members}

    @property
    def members(self):
        """Its cells, ascending."""
        return self._members

    def grown(self, low, high):
        """All sums of a cell of it and a cell whose numbers are from those of `low` to those of `high`."""
        across = _grown_lines([(y, x) for x, y in self._members], low[0], high[0])
        upward = _grown_lines([(x, y) for y, x in across], low[1], high[1])
        return Cells(upward)

    def __contains__(self, value):
        return is_cell(value) and value in self._table

    def __len__(self):
        return len(self._members)

    def __bool__(self):
        return bool(len(self._members))

    def __and__(self, other):
        if not isinstance(other, Cells):
            return NotImplemented
        return Cells([cell for cell in self.members if cell in other])

    def __or__(self, other):
        if not isinstance(other, Cells):
            return NotImplemented
        return Cells(self.members + other.members)

    def __sub__(self, other):
        if not isinstance(other, Cells):
            return NotImplemented
        return Cells([cell for cell in self.members if cell not in other])

    def __xor__(self, other):
        if not isinstance(other, Cells):
            return NotImplemented
        return (self | other) - (self & other)

    def __le__(self, other):
        if not isinstance(other, Cells):
            return NotImplemented
        return _is_part(self, other)

    def __lt__(self, other):
        if not isinstance(other, Cells):
            return NotImplemented
        return _is_part(self, other) and len(self) < len(other)

    def __ge__(self, other):
        if not isinstance(other, Cells):
            return NotImplemented
        return _is_part(other, self)

    def __gt__(self, other):
        if not isinstance(other, Cells):
            return NotImplemented
        return _is_part(other, self) and len(other) < len(self)

    def __eq__(self, other):
        return isinstance(other, Cells) and self.members == other.members

    def __str__(self):
        if not self:
            return "none"
        return " ".join([f"{x}.{y}" for x, y in self.members])


def ends(site, plan, word):
    """The places at which runs can end with a word."""
    waves = explored(Course(site, plan))
    return Cells(waves.ground.grid.cells_of(waves.ended.get(word, 0)))


def stands(site, plan, at):
    """The places at which runs can wait at the row with this number."""
    course = Course(site, plan)
    if at < 0 or at >= len(plan):
        raise NoRow(at)
    waves = explored(course)
    places = 0
    for (row, _), standings in waves.reached.items():
        if row == at:
            for more in standings.values():
                places |= more
    return Cells(waves.ground.grid.cells_of(places))


def _is_part(cells, other):
    """Whether all cells of a set are in another one."""
    return all([cell in other for cell in cells.members])


def _grown_lines(cells, low, high):
    """All sums of a cell of a list and one (0, number), with the numbers from `low` to `high`."""
    lines = {}
    for first, second in sorted(set(cells)):
        lines.setdefault(first, []).append(second)
    grown = []
    for first, seconds in lines.items():
        for number in _grown_numbers(seconds, low, high):
            grown.append((first, number))
    return grown


def _grown_numbers(numbers, low, high):
    """The same for ascending integers; each sum once."""
    grown = []
    for number in numbers:
        begin = number + low
        if len(grown) > 0 and begin <= grown[-1]:
            begin = grown[-1] + 1
        grown.extend(list(range(begin, number + high + 1)))
    return grown
