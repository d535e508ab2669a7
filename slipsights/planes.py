"""Sets of pairs of a belief and a place in one direction as integers: one bit for each pair.

The bits go from the least place to the greatest one, and then from the least belief to the greatest one. The
bounds of a span are the tuple (belief, place, error)."""

from slipsights.bounds import common, greater, joined, lesser, lies_in, shifted
from slipsights.grids import lowest_of


class Plane:
    """The pairs that the bits stand for: beliefs from 0 on, places from the margin below 0 on."""

    def __init__(self, many, margin):
        self.beliefs = (0, many - 1)
        self.places = (-margin, many - 1 + margin)
        self.width = many + 2 * margin
        self._margin = margin
        self._column = _sum_of_bits([belief * self.width for belief in range(many)])
        self._least_errors = {}

    def number_of(self, belief, place):
        """The number of the bit of a pair."""
        return belief * self.width + place + self._margin

    def has_all(self, bounds):
        """Whether all pairs within some bounds are in the plane."""
        return lies_in(bounds[0], self.beliefs) and lies_in(bounds[1], self.places)

    def bits_of(self, bounds):
        """The pairs within some bounds, which are tight and in the plane."""
        belief, place, error = bounds
        rows = _ones(belief[0] * self.width, (belief[1] + 1) * self.width)
        columns = _ones(place[0] + self._margin, place[1] + 1 + self._margin) * self._column
        return rows & columns & self._with_errors_from(error[0]) & ~self._with_errors_from(error[1] + 1)

    def grown(self, whole, number):
        """Bounds of pairs that all are in a set, with the pair that has this bit, and so that there are many."""
        belief = number // self.width
        bounds = self._run_at(whole, belief, number % self.width)
        return self._extended(whole, self._extended(whole, bounds, 1), -1)

    def _extended(self, whole, bounds, by):
        """Wider bounds, with one run of places more for each belief further up (by 1) or down (by -1)."""
        belief = bounds[0][1] if by == 1 else bounds[0][0]
        while True:
            belief += by
            run = self._run_beside(whole, bounds, belief)
            if run is None:
                return bounds
            wider = (joined(bounds[0], run[0]), joined(bounds[1], run[1]), joined(bounds[2], run[2]))
            if self.bits_of(wider) & ~whole != 0:
                return bounds
            bounds = wider

    def _run_beside(self, whole, bounds, belief):
        """The bounds of a run of places with this belief that can belong to those within some bounds, or None."""
        if belief < self.beliefs[0] or belief > self.beliefs[1]:
            return None
        near = common(bounds[1], shifted(bounds[2], belief, belief))
        # Bounds that are one place apart can still be joined.
        first = greater(lesser(near[0], near[1]) - 1, self.places[0]) + self._margin
        beyond = lesser(greater(near[0], near[1]) + 1, self.places[1]) + self._margin + 1
        row = (whole >> (belief * self.width)) & _ones(first, beyond)
        if row == 0:
            return None
        return self._run_at(whole, belief, lowest_of(row))

    def _run_at(self, whole, belief, at):
        """The bounds of the run of places with this belief that has the one with the bit `at` of its row."""
        row = (whole >> (belief * self.width)) & _ones(0, self.width)
        first = (_ones(0, at) & ~row).bit_length()
        beyond = at + lowest_of(~(row >> at))
        place = (first - self._margin, beyond - 1 - self._margin)
        return ((belief, belief), place, (place[0] - belief, place[1] - belief))

    def _with_errors_from(self, least):
        """All pairs whose error is not below the least one."""
        if least not in self._least_errors:
            self._least_errors[least] = self._all_with_errors_from(least)
        return self._least_errors[least]

    def _all_with_errors_from(self, least):
        bits = 0
        for belief in range(self.beliefs[0], self.beliefs[1] + 1):
            first = belief + least + self._margin
            if first < 0:
                first = 0
            if first < self.width:
                bits |= _ones(belief * self.width + first, (belief + 1) * self.width)
        return bits


def _ones(first, beyond):
    """An integer with the bits from the first one on, up to the one ahead of `beyond`."""
    if beyond <= first:
        return 0
    return ((1 << (beyond - first)) - 1) << first


def _sum_of_bits(numbers):
    bits = 0
    for number in numbers:
        bits |= 1 << number
    return bits
