"""Plans that end with the same words at the same cells."""

from slipsights.cells import Cells
from slipsights.errors import InvalidRow
from slipsights.runs import Course
from slipsights.waves import explored


def alike(site, p, q):
    """Whether for each word the cells at which runs can end with it are the same for both plans."""
    return parting(site, p, q) is None


def parting(site, p, q):
    """The first word and cell at which runs of just one of two plans can end, or None if they are alike."""
    course = Course(site, p)
    other = Course(site, q)
    return _difference(_ends_of(course), _ends_of(other))


def needless(site, plan):
    """The numbers of the rows without which, each alone, the plan is alike."""
    ends = _ends_of(Course(site, plan))
    numbers = []
    for at in range(len(plan)):
        shorter = _without(plan, at)
        if shorter is not None and _difference(ends, _ends_of(Course(site, shorter))) is None:
            numbers.append(at)
    return tuple(numbers)


def _without(plan, at):
    """The plan without a row, or None if it cannot be left out."""
    try:
        return plan.without(at)
    except InvalidRow:
        return None


def _ends_of(course):
    """For each word with which runs can end the cells at which they do."""
    waves = explored(course)
    return {word: Cells(waves.ground.grid.cells_of(places)) for word, places in waves.ended.items()}


def _difference(ends, others):
    """The first word for which two such dicts differ and the first cell that just one has there, or None."""
    for word in sorted(set(list(ends) + list(others))):
        cells = ends.get(word, Cells()) ^ others.get(word, Cells())
        if len(cells) > 0:
            return (word, cells.members[0])
    return None
