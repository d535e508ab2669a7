"""Certificates: sets of standings that no run leaves, and that show that a fault never comes."""

from slipsights.checks import is_cell, is_integer
from slipsights.covers import cover, planes_of, sheet_of
from slipsights.plans import Go, See
from slipsights.proofs import Proof
from slipsights.runs import Course
from slipsights.sites import Room, Site
from slipsights.spans import Span
from slipsights.waves import explored


def certificate(site, plan, fault):
    """Some right certificate that the fault never comes, or None if it can come."""
    courses = [Course(site, plan)]
    if fault != "barred":
        # Where barred rooms play no part, it takes far fewer entries to do without them.
        courses = [Course(_opened(site), plan)] + courses
    for course in courses:
        waves = explored(course, fault)
        if fault not in waves.faulty:
            return _entries(waves)
    return None


def certificate_holds(site, plan, fault, value):
    """Whether any value is a right certificate that the fault never comes."""
    course = Course(site, plan)
    if not isinstance(value, tuple) or not all([_is_entry(plan, entry) for entry in value]):
        return False
    held = {}
    for row, done, across, upward in value:
        patch = (Span(across[0], across[1], across[2]), Span(upward[0], upward[1], upward[2]))
        held.setdefault((row, done), []).append(patch)
    return Proof(course, fault, held).is_right()


def _opened(site):
    """The site with all its rooms, none of them barred."""
    rooms = [Room(room.name, room.low, room.high) for room in site.rooms]
    return Site(site.size, site.slips, rooms, site.marks)


def _entries(waves):
    """Entries that hold just the standings where runs wait."""
    grid = waves.ground.grid
    planes = planes_of(grid)
    entries = []
    for (row, done), standings in waves.reached.items():
        for across, upward in cover(planes, sheet_of(grid, planes, standings)):
            entries.append((row, done, across, upward))
    return tuple(entries)


def _is_entry(plan, value):
    if not isinstance(value, tuple) or len(value) != 4:
        return False
    row, done, across, upward = value
    return _is_position(plan, row, done) and _are_bounds(across) and _are_bounds(upward)


def _is_position(plan, at, done):
    if not is_integer(at) or not is_integer(done) or at < 0 or at >= len(plan):
        return False
    row = plan[at]
    if isinstance(row, Go):
        return 0 <= done < row.steps
    return isinstance(row, See) and done == 0


def _are_bounds(value):
    """Whether a value has the tight bounds of a span that is not empty."""
    if not isinstance(value, tuple) or len(value) != 3 or not all([is_cell(bounds) for bounds in value]):
        return False
    span = Span(value[0], value[1], value[2])
    return (span.belief, span.place, span.error) == value
