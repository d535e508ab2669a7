"""Runs: what a robot does, told by the slips of its steps and the errors of its sights."""

from slipsights.checks import is_cell, is_sequence, lies_within
from slipsights.errors import InvalidRun, Mismatch
from slipsights.plans import WAYS, Go, See, Stop, While, read_test, rows_through


class Played:
    """How far a run has come with some pairs."""

    def __init__(self, ended, row, done, belief, place, trail, faults):
        self.ended = ended
        self.row = row
        self.done = done
        self.belief = belief
        self.place = place
        self.trail = trail
        self.faults = faults


class Standing:
    """Where a run waits, or how it has ended."""

    def __init__(self, ended, row, done, belief, place):
        self.ended = ended
        self.row = row
        self.done = done
        self.belief = belief
        self.place = place


class Course:
    """A plan that fits a site, and where each of its rows leads."""

    def __init__(self, site, plan):
        check_match(site, plan)
        self.site = site
        self.plan = plan
        self.leads = _leads_of_rows(plan.rows, 0, len(plan))

    def first(self):
        """The standing ahead of all pairs."""
        return Standing(None, None, 0, self.plan.start, None)

    def behind(self, standing, pair):
        """The standing behind any value as the next pair, or None if it is not allowed."""
        if standing.ended is not None or not is_cell(pair):
            return None
        low, high = self._pair_range(standing)
        if not lies_within(pair, low, high):
            return None
        if standing.row is None:
            return self._begun(pair)
        row = self.plan[standing.row]
        if isinstance(row, Go):
            return self._stepped(standing, row, pair)
        return self._sighted(standing, pair)

    def after(self, at, done):
        """Where a run is behind its pair at a position: ahead of which row, and how many steps of it are done."""
        row = self.plan[at]
        if isinstance(row, Go) and done + 1 < row.steps:
            return (at, done + 1)
        return (self.leads[at][0], 0)

    def pairs_at(self, standing):
        """The list of the pairs that may come next; of those for a sight, some may not be allowed."""
        low, high = self._pair_range(standing)
        return _pairs_between(low, high)

    def pairs_of(self, row):
        """The same for all standings at a row where runs wait."""
        low, high = self._pair_range_of(row)
        return _pairs_between(low, high)

    def _pair_range(self, standing):
        if standing.row is None:
            return _error_range(self.plan.blur)
        return self._pair_range_of(self.plan[standing.row])

    def _pair_range_of(self, row):
        if isinstance(row, Go):
            return slip_range(WAYS[row.way], self.site.slips)
        return _error_range(self.site.mark_of(row.mark).blur)

    def _begun(self, error):
        return self._arrived(0, 0, self.plan.start, _sum_of(self.plan.start, error))

    def _stepped(self, standing, row, slip):
        belief = _sum_of(standing.belief, WAYS[row.way])
        place = _sum_of(_sum_of(standing.place, WAYS[row.way]), slip)
        at, done = self.after(standing.row, standing.done)
        return self._arrived(at, done, belief, place)

    def _sighted(self, standing, error):
        belief = (standing.place[0] - error[0], standing.place[1] - error[1])
        if not self.site.in_yard(belief):
            return None
        return self.gone_on(self.leads[standing.row][0], 0, belief, standing.place)

    def _arrived(self, at, done, belief, place):
        """The standing of a run that has just come to a place, ahead of the row with this number."""
        if self.site.is_barred(place):
            return Standing("barred", None, 0, belief, place)
        return self.gone_on(at, done, belief, place)

    def gone_on(self, at, done, belief, place):
        """Where a run ahead of the row with this number next needs a pair, or how it ends without one."""
        standing = self.gone_to_deed(at, done, belief, place)
        while self._misses(standing):
            standing = self.gone_to_deed(self.leads[standing.row][1], 0, belief, place)
        return standing

    def gone_to_deed(self, at, done, belief, place):
        """Where a run ahead of the row with this number next has a step to do or a landmark to look for, seen or
        not, or how it ends without one."""
        while at < len(self.plan):
            row = self.plan[at]
            if isinstance(row, Stop):
                return Standing(row.room, None, 0, belief, place)
            if isinstance(row, Go):
                return self._ahead_of_step(at, done, belief, place)
            if isinstance(row, See):
                return Standing(None, at, 0, belief, place)
            at = self.leads[at][0 if holds(row.test, belief) else 1]
        return Standing("end", None, 0, belief, place)

    def _misses(self, standing):
        if standing.row is None:
            return False
        row = self.plan[standing.row]
        return isinstance(row, See) and standing.place not in self.site.mark_of(row.mark)

    def _ahead_of_step(self, at, done, belief, place):
        if not self.site.in_yard(_sum_of(belief, WAYS[self.plan[at].way])):
            return Standing("halted", None, 0, belief, place)
        return Standing(None, at, done, belief, place)


def play(site, plan, pairs):
    """How far a run comes with these pairs."""
    course = Course(site, plan)
    if not is_sequence(pairs):
        raise InvalidRun(0)
    standing = course.first()
    trail = []
    for at, pair in enumerate(pairs):
        standing = course.behind(standing, pair)
        if standing is None:
            raise InvalidRun(at)
        trail.append((standing.belief, standing.place))
    faults = faults_of(site, standing)
    return Played(
        standing.ended, standing.row, standing.done, standing.belief, standing.place, tuple(trail), faults,
    )


def check_match(site, plan):
    """Refuse a plan that begins outside of the yard or tells what the site does not have."""
    if not site.in_yard(plan.start):
        raise Mismatch("start")
    rooms = [room.name for room in site.rooms]
    marks = [mark.name for mark in site.marks]
    for row in rows_through(plan.rows):
        if isinstance(row, Stop) and row.room not in rooms:
            raise Mismatch(row.room)
        if isinstance(row, See) and row.mark not in marks:
            raise Mismatch(row.mark)


def holds(test, belief):
    """Whether a test holds for a belief."""
    direction, below, number = read_test(test)
    return (belief[direction] < number) == below


def slip_range(way, slips):
    """The pair of the least slips of a step in a way, and that of the greatest ones."""
    across = _slip_bounds(way[0], slips)
    upward = _slip_bounds(way[1], slips)
    return ((across[0], upward[0]), (across[1], upward[1]))


def faults_of(site, standing):
    """The faults with which a run has ended here."""
    if standing.ended in ("barred", "halted"):
        return (standing.ended,)
    if standing.ended in (None, "end") or standing.place in site.room_of(standing.ended):
        return ()
    return ("astray",)


def _sum_of(cell, pair):
    return (cell[0] + pair[0], cell[1] + pair[1])


def _pairs_between(low, high):
    return [(x, y) for x in range(low[0], high[0] + 1) for y in range(low[1], high[1] + 1)]


def _error_range(blur):
    return ((-blur, -blur), (blur, blur))


def _slip_bounds(step, slips):
    """The least and the greatest slip in a direction in which a step leads by -1, 0 or 1."""
    back, ahead, side = slips
    if step == 0:
        return (-side, side)
    return (-back, ahead) if step == 1 else (-ahead, back)


def _leads_of_rows(rows, at, behind):
    """Where these rows and those in them lead: the first has the number `at`, the last leads `behind`."""
    leads = []
    for k, row in enumerate(rows):
        after = at + len(rows_through([row]))
        leads.extend(_leads_of_row(row, at, behind if k == len(rows) - 1 else after))
        at = after
    return leads


def _leads_of_row(row, at, after):
    """The same for one row: where it leads with its rows (or steps) and where with its others."""
    entries = []
    inner = []
    first = at + 1
    for block in row.blocks():
        entries.append(first if len(block) > 0 else after)
        inner.extend(_leads_of_rows(block, first, at if isinstance(row, While) else after))
        first += len(rows_through(block))
    entries = entries + [after, after]
    return [(entries[0], entries[1])] + inner
