"""A second reading of section 6, written in another way than the program: a generator that walks the rows
as they are nested, asks for each pair, and tells how the run ends."""

from slipsights.plans import Go, If, See, Stop, While

AHEAD = {"east": (1, 0), "north": (0, 1), "west": (-1, 0), "south": (0, -1)}
ASKS = {"<": lambda number, bound: number < bound, ">=": lambda number, bound: number >= bound}


class Ended(Exception):
    """The run ends with this word."""


class Model:
    """One run; `pairs()` yields (row, done, the pairs that are allowed) and is sent a pair."""

    def __init__(self, site, plan):
        self.site, self.plan = site, plan
        self.belief, self.place, self.ended = plan.start, None, None

    def pairs(self):
        try:
            near = range(-self.plan.blur, self.plan.blur + 1)
            error = yield None, 0, {(x, y) for x in near for y in near}
            self.place = tuple(b + e for b, e in zip(self.belief, error))
            self.look_out()
            yield from self.rows(self.plan.rows, 0)
            raise Ended("end")
        except Ended as end:
            self.ended = str(end)

    def look_out(self):
        x, y = self.place
        barred = [room for room in self.site.rooms if room.barred]
        if not self.inside(self.place) or any(
            room.low[0] <= x <= room.high[0] and room.low[1] <= y <= room.high[1] for room in barred
        ):
            raise Ended("barred")

    def inside(self, cell):
        return cell[0] in range(self.site.size[0]) and cell[1] in range(self.site.size[1])

    def rows(self, rows, number):
        for row in rows:
            yield from self.row(row, number)
            number += many(row)

    def row(self, row, number):
        if isinstance(row, Go):
            for done in range(row.steps):
                yield from self.step(row.way, number, done)
        elif isinstance(row, If):
            if self.asks(row.test):
                yield from self.rows(row.rows, number + 1)
            else:
                yield from self.rows(row.others, number + 1 + sum(many(one) for one in row.rows))
        elif isinstance(row, While):
            while self.asks(row.test):
                yield from self.rows(row.rows, number + 1)
        elif isinstance(row, See):
            yield from self.sight(row, number)
        elif isinstance(row, Stop):
            raise Ended(row.room)

    def asks(self, test):
        axis, sign, bound = test.split(" ")
        return ASKS[sign](self.belief["xy".index(axis)], int(bound))

    def step(self, way, number, done):
        ahead = AHEAD[way]
        belief = tuple(b + a for b, a in zip(self.belief, ahead))
        if not self.inside(belief):
            raise Ended("halted")
        back, forth, side = self.site.slips
        allowed = set()
        for along in range(-back, forth + 1):
            for across in range(-side, side + 1):
                allowed.add((along * ahead[0] + across * ahead[1], along * ahead[1] + across * ahead[0]))
        slip = yield number, done, allowed
        self.belief = belief
        self.place = tuple(t + a + s for t, a, s in zip(self.place, ahead, slip))
        self.look_out()

    def sight(self, row, number):
        mark, = [one for one in self.site.marks if one.name == row.mark]
        x, y = self.place
        if mark.low[0] <= x <= mark.high[0] and mark.low[1] <= y <= mark.high[1]:
            near = range(-mark.blur, mark.blur + 1)
            error = yield number, 0, {(a, b) for a in near for b in near if self.inside((x - a, y - b))}
            self.belief = x - error[0], y - error[1]
            yield from self.rows(row.rows, number + 1)
        else:
            yield from self.rows(row.others, number + 1 + sum(many(one) for one in row.rows))


def many(row):
    """The number of rows in a row, itself too."""
    inner = list(getattr(row, "rows", ())) + list(getattr(row, "others", ()))
    return 1 + sum(many(one) for one in inner)
