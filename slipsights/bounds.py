"""Ranges of integers: tuples of the least and the greatest one, without any if the least is greater."""


def lesser(p, q):
    """The lesser one of two integers."""
    return p if p <= q else q


def greater(p, q):
    """The greater one of two integers."""
    return p if p >= q else q


def common(p, q):
    """The range of what lies in both of two ranges."""
    return (greater(p[0], q[0]), lesser(p[1], q[1]))


def joined(p, q):
    """The least range with all of two ranges that have integers."""
    return (lesser(p[0], q[0]), greater(p[1], q[1]))


def lies_in(p, q):
    """Whether a range that has integers lies in another one."""
    return q[0] <= p[0] and p[1] <= q[1]


def shifted(p, low, high):
    """The range of the sums of an integer of a range and one from `low` to `high`."""
    return (p[0] + low, p[1] + high)
