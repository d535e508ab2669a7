"""The widest slips that a plan bears, and the fewest landmarks that it needs."""

from slipsights.deciding import never
from slipsights.plans import See, rows_through
from slipsights.runs import check_match
from slipsights.sites import Mark, Site

SLIPS = ("back", "ahead", "side")
MOST_SLIP = 3
# Runs that wait are in the yard, so a landmark that is seen from here alone is never seen.
NOWHERE = (-1, -1)


def widest(site, plan, faults, slip):
    """The greatest number from 0 to 3 for this slip with which no fault can come, or None if there is none."""
    check_match(site, plan)
    most = None
    for number in range(MOST_SLIP + 1):
        # More slip never makes a fault impossible: behind the first number that is too much, all are.
        if not _comes_none(_with_slip(site, slip, number), plan, faults):
            return most
        most = number
    return most


def fewest_marks(site, plan, faults):
    """The names of the fewest landmarks with which alone no fault can come, or None if there are none."""
    check_match(site, plan)
    # A landmark that the plan does not tell changes nothing, so it is never among the fewest.
    told = sorted(set([row.mark for row in rows_through(plan.rows) if isinstance(row, See)]))
    for many in range(len(told) + 1):
        for names in _choices(told, many):
            if _comes_none(_with_marks(site, names), plan, faults):
                return names
    return None


def _comes_none(site, plan, faults):
    """Whether none of the faults can come."""
    for fault in sorted(set(faults)):
        if not never(site, plan, fault):
            return False
    return True


def _with_slip(site, slip, number):
    """The site with a number instead of one of its slips."""
    slips = [number if word == slip else kept for word, kept in zip(SLIPS, site.slips)]
    return Site(site.size, tuple(slips), site.rooms, site.marks)


def _with_marks(site, names):
    """The site where only the landmarks with these names are ever seen."""
    marks = [mark if mark.name in names else Mark(mark.name, NOWHERE, NOWHERE, 0) for mark in site.marks]
    return Site(site.size, site.slips, site.rooms, marks)


def _choices(names, many):
    """The list of all tuples of so many ascending names, in ascending order."""
    if many == 0:
        return [()]
    choices = []
    for k, name in enumerate(names):
        choices.extend([(name,) + rest for rest in _choices(names[k + 1:], many - 1)])
    return choices
