"""Patches: sets of standings that are products of two spans, tuples (across, upward), none of them empty."""

from slipsights.bounds import common
from slipsights.spans import Span


def with_places(patch, low, high):
    """The patch with the places whose numbers are from those of `low` to those of `high`, or None."""
    across = Span(patch[0].belief, common(patch[0].place, (low[0], high[0])), patch[0].error)
    upward = Span(patch[1].belief, common(patch[1].place, (low[1], high[1])), patch[1].error)
    return _patch(across, upward)


def with_beliefs(patch, low, high):
    """The same with the beliefs."""
    across = Span(common(patch[0].belief, (low[0], high[0])), patch[0].place, patch[0].error)
    upward = Span(common(patch[1].belief, (low[1], high[1])), patch[1].place, patch[1].error)
    return _patch(across, upward)


def with_test(patch, test):
    """The patch with the beliefs for which a test holds, and that with the others; None for one without any."""
    direction, below, number = test
    belief = patch[direction].belief
    less = _with_belief(patch, direction, common(belief, (belief[0], number - 1)))
    more = _with_belief(patch, direction, common(belief, (number, belief[1])))
    return (less, more) if below else (more, less)


def stepped(patch, way, low, high):
    """The patch behind a step in a way with slips from `low` to `high`."""
    return (patch[0].stepped(way[0], low[0], high[0]), patch[1].stepped(way[1], low[1], high[1]))


def sighted(patch, low, high, blur):
    """The patch behind a sight from the places from `low` to `high`, or None."""
    return _patch(patch[0].sighted(low[0], high[0], blur), patch[1].sighted(low[1], high[1], blur))


def less_patch(patch, other):
    """A list of patches that together have what another patch, or None, does not have, and do not meet."""
    if other is None:
        return [patch]
    pieces = [(across, patch[1]) for across in patch[0].less(other[0])]
    both = patch[0] & other[0]
    if both:
        pieces.extend([(both, upward) for upward in patch[1].less(other[1])])
    return pieces


def is_covered(patch, others):
    """Whether each standing of a patch is in one of the others."""
    left = [(patch, 0)]
    while len(left) > 0:
        piece, at = left.pop()
        while at < len(others) and not _meet(piece, others[at]):
            at += 1
        if at == len(others):
            return False
        left.extend([(rest, at + 1) for rest in less_patch(piece, others[at])])
    return True


def bounds_of(span):
    """The three bounds of a span."""
    return (span.belief, span.place, span.error)


def _with_belief(patch, direction, belief):
    span = Span(belief, patch[direction].place, patch[direction].error)
    return _patch(span, patch[1]) if direction == 0 else _patch(patch[0], span)


def _meet(patch, other):
    return bool(patch[0] & other[0]) and bool(patch[1] & other[1])


def _patch(across, upward):
    return (across, upward) if across and upward else None
