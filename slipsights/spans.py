"""Spans: sets of pairs of a belief and a place in one direction."""

from slipsights.bounds import common, lies_in, shifted
from slipsights.checks import is_cell
from slipsights.errors import InvalidSpan


class Span:
    """The pairs (b, t) with bounds on b, on t and on t - b; the bounds are kept as tight as they can be."""

    def __init__(self, belief, place, error):
        if not is_cell(belief):
            raise InvalidSpan("belief")
        if not is_cell(place):
            raise InvalidSpan("place")
        if not is_cell(error):
            raise InvalidSpan("error")
        # Each bound follows from itself or from those of the other two: one round makes all of them tight.
        tight = (
            common(belief, (place[0] - error[1], place[1] - error[0])),
            common(place, (belief[0] + error[0], belief[1] + error[1])),
            common(error, (place[0] - belief[1], place[1] - belief[0])),
        )
        if any([low > high for low, high in tight]):
            tight = (None, None, None)
        self.belief, self.place, self.error = tight

    @property
    def total(self):
        """The number of pairs."""
        if not self:
            return 0
        # The pairs within the bounds of belief and place are a rectangle. Of it the bounds of the error leave
        # out two corners, which are triangles that do not meet, as these bounds are tight.
        (b_low, b_high), (t_low, t_high), (e_low, e_high) = self.belief, self.place, self.error
        rectangle = (b_high - b_low + 1) * (t_high - t_low + 1)
        return rectangle - _triangle(e_low - t_low + b_high) - _triangle(t_high - b_low - e_high)

    def stepped(self, by, low, high):
        """The pairs behind a step of the belief, which may slip from `low` to `high`."""
        if not self:
            return self
        return Span(
            shifted(self.belief, by, by), shifted(self.place, by + low, by + high), shifted(self.error, low, high),
        )

    def sighted(self, low, high, blur):
        """The pairs behind a sight from the places from `low` to `high`."""
        if not self:
            return self
        place = common(self.place, (low, high))
        return Span((place[0] - blur, place[1] + blur), place, (-blur, blur))

    def less(self, other):
        """Spans that together have the pairs that the other one does not have, each of them once."""
        if not self & other:
            return (self,) if self else ()
        pieces = []
        rest = [self.belief, self.place, self.error]
        for k, (low, high) in enumerate((other.belief, other.place, other.error)):
            pieces.append(_with_range(rest, k, (rest[k][0], low - 1)))
            pieces.append(_with_range(rest, k, (high + 1, rest[k][1])))
            rest[k] = common(rest[k], (low, high))
        return tuple([piece for piece in pieces if piece])

    def places_at(self, number):
        """The least and the greatest place with this belief, or None."""
        if not self or number < self.belief[0] or number > self.belief[1]:
            return None
        return common(self.place, shifted(self.error, number, number))

    def __contains__(self, value):
        if not self or not is_cell(value):
            return False
        belief, place = value
        if not self.belief[0] <= belief <= self.belief[1] or not self.place[0] <= place <= self.place[1]:
            return False
        return self.error[0] <= place - belief <= self.error[1]

    def __bool__(self):
        return self.belief is not None

    def __and__(self, other):
        if not isinstance(other, Span):
            return NotImplemented
        if not self:
            return self
        if not other:
            return other
        return Span(
            common(self.belief, other.belief), common(self.place, other.place), common(self.error, other.error),
        )

    def __le__(self, other):
        if not isinstance(other, Span):
            return NotImplemented
        return _is_part(self, other)

    def __lt__(self, other):
        if not isinstance(other, Span):
            return NotImplemented
        return _is_part(self, other) and not _is_part(other, self)

    def __ge__(self, other):
        if not isinstance(other, Span):
            return NotImplemented
        return _is_part(other, self)

    def __gt__(self, other):
        if not isinstance(other, Span):
            return NotImplemented
        return _is_part(other, self) and not _is_part(self, other)

    def __eq__(self, other):
        if not isinstance(other, Span):
            return False
        return self.belief == other.belief and self.place == other.place and self.error == other.error


def _is_part(span, other):
    """Whether all pairs of a span are in another one."""
    if not span or not other:
        return not span
    if not lies_in(span.belief, other.belief) or not lies_in(span.place, other.place):
        return False
    return lies_in(span.error, other.error)


def _triangle(side):
    """The number of pairs in a triangle with so many in its longest row."""
    return side * (side + 1) // 2


def _with_range(ranges, at, other):
    """The span with these ranges, one of them replaced."""
    replaced = list(ranges)
    replaced[at] = other
    return Span(replaced[0], replaced[1], replaced[2])
