"""A plain search through all runs of small plans, pair by pair: what the tests compare the program with.

It has its own reading of sections 6 and 10: a run that goes on has a tuple of the numbers of the rows that are
still to be done, the next one first."""

from slipsights.plans import Go, If, See, Stop, While

AHEAD = {"east": (1, 0), "north": (0, 1), "west": (-1, 0), "south": (0, -1)}


class Search:
    """A standing is a tuple (row, done, belief, place); an end is a tuple (word, belief, place)."""

    def __init__(self, site, plan, left_out=()):
        self.site, self.plan, self.left_out = site, plan, left_out
        self.rows, self.inner, self.todo = [], [], {}
        top = self.number(plan.rows)
        self.link(top, ())
        self.top = top

    def number(self, rows):
        """Give the rows numbers; return those of the outermost ones."""
        numbers = []
        for row in rows:
            numbers.append(len(self.rows))
            self.rows.append(row)
            self.inner.append(None)
            blocks = (self.number(getattr(row, "rows", ())), self.number(getattr(row, "others", ())))
            self.inner[numbers[-1]] = blocks
        return tuple(numbers)

    def link(self, numbers, rest):
        """Note for each row what is still to be done behind it."""
        for k, number in enumerate(numbers):
            behind = numbers[k + 1:] + rest
            self.todo[number] = behind
            again = (number,) + behind if isinstance(self.rows[number], While) else behind
            for block in self.inner[number]:
                self.link(block, again)

    def inside(self, cell):
        return cell[0] in range(self.site.size[0]) and cell[1] in range(self.site.size[1])

    def barred(self, cell):
        return not self.inside(cell) or any(room.barred and box_has(room, cell) for room in self.site.rooms)

    def mark(self, name):
        return [mark for mark in self.site.marks if mark.name == name][0]

    def sees(self, name, place):
        """Whether a landmark is seen from a place; those that are left out never are."""
        return name not in self.left_out and box_has(self.mark(name), place)

    def go(self, todo, belief, place):
        """Where a run waits or ends that has these rows to do."""
        while todo:
            number, todo = todo[0], todo[1:]
            row = self.rows[number]
            if isinstance(row, Stop):
                return (row.room, belief, place)
            if isinstance(row, Go):
                return self.at_step(number, 0, belief, place)
            if isinstance(row, See):
                if self.sees(row.mark, place):
                    return (number, 0, belief, place)
                todo = self.inner[number][1] + todo
            elif isinstance(row, If):
                todo = self.inner[number][0 if asks(row.test, belief) else 1] + todo
            elif asks(row.test, belief):
                todo = self.inner[number][0] + (number,) + todo
        return ("end", belief, place)

    def at_step(self, number, done, belief, place):
        ahead = AHEAD[self.rows[number].way]
        if not self.inside((belief[0] + ahead[0], belief[1] + ahead[1])):
            return ("halted", belief, place)
        return (number, done, belief, place)

    def begin(self):
        """A dict from the pairs of the start to the standings or ends behind them."""
        found = {}
        start = self.plan.start
        for pair in square(self.plan.blur):
            place = (start[0] + pair[0], start[1] + pair[1])
            found[pair] = ("barred", start, place) if self.barred(place) else self.go(self.top, start, place)
        return found

    def behind(self, standing):
        """The same for a standing where a run waits."""
        number, done, belief, place = standing
        row = self.rows[number]
        if isinstance(row, Go):
            return self.behind_step(number, done, belief, place)
        found = {}
        for pair in square(self.mark(row.mark).blur):
            seen = (place[0] - pair[0], place[1] - pair[1])
            if self.inside(seen):
                found[pair] = self.go(self.inner[number][0] + self.todo[number], seen, place)
        return found

    def behind_step(self, number, done, belief, place):
        row = self.rows[number]
        ahead = AHEAD[row.way]
        back, forth, side = self.site.slips
        found = {}
        belief = (belief[0] + ahead[0], belief[1] + ahead[1])
        for along in range(-back, forth + 1):
            for across in range(-side, side + 1):
                pair = (along * ahead[0] + across * ahead[1], along * ahead[1] + across * ahead[0])
                spot = (place[0] + ahead[0] + pair[0], place[1] + ahead[1] + pair[1])
                if self.barred(spot):
                    found[pair] = ("barred", belief, spot)
                elif done + 1 < row.steps:
                    found[pair] = self.at_step(number, done + 1, belief, spot)
                else:
                    found[pair] = self.go(self.todo[number], belief, spot)
        return found

    def from_standing(self, standing):
        """The standings or ends that follow from any standing, also from one where no run would wait."""
        number, done, belief, place = standing
        row = self.rows[number]
        if isinstance(row, Go):
            now = self.at_step(number, done, belief, place)
            return [now] if is_end(now) else list(self.behind(standing).values())
        if not self.sees(row.mark, place):
            return [self.go(self.inner[number][1] + self.todo[number], belief, place)]
        return list(self.behind(standing).values())

    def fault(self, end):
        """The fault of an end, or None."""
        if end[0] in ("barred", "halted"):
            return end[0]
        room = [room for room in self.site.rooms if room.name == end[0]]
        return "astray" if room and not box_has(room[0], end[2]) else None


class Everything:
    """All that can be reached: the number of pairs at which each standing, end and fault comes first."""

    def __init__(self, site, plan, left_out=()):
        self.search = Search(site, plan, left_out)
        self.depth, self.ends, self.faults = {}, {}, {}
        self.edges = {None: self.search.begin()}
        wave, pairs = [None], 0
        while wave:
            pairs += 1
            fresh = []
            for standing in wave:
                for other in self.edges[standing].values():
                    if is_end(other):
                        self.note_end(other, pairs)
                    elif other not in self.depth:
                        self.depth[other] = pairs
                        self.edges[other] = self.search.behind(other)
                        fresh.append(other)
            wave = fresh

    def note_end(self, end, pairs):
        self.ends.setdefault(end[0], set()).add(end[2])
        fault = self.search.fault(end)
        if fault is not None:
            self.faults.setdefault(fault, pairs)

    def longest(self):
        """The greatest number of pairs, or None: lengths grow round by round until there are too many."""
        length = {standing: 0 for standing in self.edges}
        for _ in range(len(self.edges) + 1):
            longer = {
                standing: 1 + max([0] + [length[other] for other in edges.values() if not is_end(other)])
                for standing, edges in self.edges.items()
            }
            if longer == length:
                return length[None]
            length = longer
        return None

    def comes(self, fault):
        """Whether some run has the fault."""
        return self.longest() is None if fault == "endless" else fault in self.faults

    def errors(self, at):
        """The ranges of the errors at a row, as `drift` tells them."""
        waits = [standing for standing in self.depth if standing[0] == at]
        if not waits:
            return None
        errors = [(place[0] - belief[0], place[1] - belief[1]) for _, _, belief, place in waits]
        return tuple((min(numbers), max(numbers)) for numbers in zip(*errors))

    def places(self, at):
        return {standing[3] for standing in self.depth if standing[0] == at}


def is_right(site, plan, fault, entries):
    """Whether a certificate with not too many standings is right, standing by standing."""
    search = Search(site, plan)
    held = standings_of(entries)
    follow = list(search.begin().values())
    for standing in held:
        follow.extend(search.from_standing(standing))
    return all(search.fault(one) != fault if is_end(one) else one in held for one in follow)


def standings_of(entries):
    """All standings that entries hold."""
    held = set()
    for row, done, across, upward in entries:
        for x in pairs_of(across):
            for y in pairs_of(upward):
                held.add((row, done, (x[0], y[0]), (x[1], y[1])))
    return held


def pairs_of(bounds):
    """All pairs (belief, place) of a span with these bounds."""
    belief, place, error = bounds
    return [
        (b, t) for b in range(belief[0], belief[1] + 1) for t in range(place[0], place[1] + 1)
        if error[0] <= t - b <= error[1]
    ]


def is_end(outcome):
    return len(outcome) == 3


def box_has(box, cell):
    return box.low[0] <= cell[0] <= box.high[0] and box.low[1] <= cell[1] <= box.high[1]


def asks(test, belief):
    axis, sign, bound = test.split(" ")
    number = belief["xy".index(axis)]
    return number < int(bound) if sign == "<" else number >= int(bound)


def square(blur):
    return [(x, y) for x in range(-blur, blur + 1) for y in range(-blur, blur + 1)]
