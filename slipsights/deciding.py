"""What can happen in any run of a plan: faults, the number of pairs, errors, and runs that never end."""

from slipsights.bounds import joined
from slipsights.errors import NoRow
from slipsights.graphs import Graph
from slipsights.runs import Course
from slipsights.traces import first_run
from slipsights.waves import explored, need_never_end


def never(site, plan, fault):
    """Whether no run has the fault."""
    if fault == "endless":
        return not need_never_end(explored(Course(site, plan)))
    return fault not in explored(Course(site, plan), fault).faulty


def shortest(site, plan, fault):
    """Some run with the fewest pairs that has the fault, or None."""
    return first_run(Course(site, plan), fault)


def longest(site, plan):
    """The greatest number of pairs that a run takes until it ends, or None if a run need never end."""
    return Graph(Course(site, plan)).heights[0]


def endless(site, plan):
    """Some pairs (lead, ring) of a run that can do the ring for ever, or None if all runs end."""
    return Graph(Course(site, plan)).ring()


def drift(site, plan, at):
    """The ranges of the errors, for x and y, with which runs can wait at a row, or None if none waits there."""
    course = Course(site, plan)
    if at < 0 or at >= len(plan):
        raise NoRow(at)
    waves = explored(course)
    ranges = None
    for (row, _), standings in waves.reached.items():
        if row == at:
            ranges = _with_errors(ranges, waves.ground.grid, standings)
    return ranges


def _with_errors(ranges, grid, standings):
    """The least ranges with those that there are so far (or None) and the errors of these standings."""
    for belief, places in standings.items():
        low, high = grid.corners(places)
        across = (low[0] - belief[0], high[0] - belief[0])
        upward = (low[1] - belief[1], high[1] - belief[1])
        if ranges is None:
            ranges = (across, upward)
        else:
            ranges = (joined(ranges[0], across), joined(ranges[1], upward))
    return ranges
