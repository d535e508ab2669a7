"""All runs of a plan at once, pair by pair.

A wave has all that the next pair brings anew: for each position, which is a row and how many of its steps are
done, a dict from the beliefs to the places (as in `grids`) of runs that wait there. The first wave with a fault
comes behind the fewest pairs."""

from slipsights.grids import Ground, numbers_of, swept
from slipsights.plans import WAYS, Go, If, See, Stop, While, read_test, rows_through


class Waves:
    """Where runs can wait, how they can end, and how each fault comes first, by the pairs so far."""

    def __init__(self, course):
        self.course = course
        self.ground = Ground(course.site, course.plan)
        self.reached = {}
        self.ended = {}
        # For each fault that came: the position ahead of the pair (None for the start), the belief and the
        # places behind it.
        self.faulty = {}
        self._fresh = {}
        self._source = None
        self._looked = {}
        self._rows = rows_through(course.plan.rows)
        self._tests = [_test_of(row) for row in self._rows]

    def begin(self):
        """Have all runs at the start."""
        self._arrive(0, 0, self.course.plan.start, self.ground.start)

    def begin_at(self, at, done, belief, places):
        """Have the runs that have come ahead of a row with a belief, and are at some free places."""
        self._go_on(at, done, belief, places)

    def take(self):
        """The wave that has come, behind which the next one begins."""
        wave = self._fresh
        self._fresh = {}
        return wave

    def spread(self, wave):
        """Do one more pair, whichever is allowed, from all that a wave has."""
        for position, standings in wave.items():
            self._source = position
            row = self._rows[position[0]]
            if isinstance(row, Go):
                self._step(position, row, standings)
            else:
                self._look(position[0], row, standings)

    def _step(self, position, row, standings):
        at, done = self.course.after(position[0], position[1])
        way = WAYS[row.way]
        sweep = self.ground.steps[row.way]
        for belief, places in standings.items():
            self._arrive(at, done, (belief[0] + way[0], belief[1] + way[1]), swept(places, sweep))

    def _look(self, at, row, standings):
        """A sight forgets the belief, so from here each place is looked from once."""
        grid = self.ground.grid
        blur = self.course.site.mark_of(row.mark).blur
        places = 0
        for seen in standings.values():
            places |= seen
        places &= ~self._looked.get(at, 0)
        self._looked[at] = self._looked.get(at, 0) | places
        about = swept(1, grid.sweep((0, 0), (2 * blur, 2 * blur)))
        beliefs = swept(places, grid.sweep((-blur, -blur), (blur, blur))) & self.ground.yard
        for number in numbers_of(beliefs):
            near = about << (number - blur * grid.height - blur)
            self._go_on(self.course.leads[at][0], 0, grid.cell_at(number), places & near)

    def _arrive(self, at, done, belief, places):
        """Runs come to places, ahead of a row."""
        free = places & self.ground.free
        if free != places:
            barred = places & ~free
            self._end("barred", barred)
            self._blame("barred", belief, barred)
        if free > 0:
            self._go_on(at, done, belief, free)

    def _go_on(self, at, done, belief, places):
        """Runs go on ahead of a row, until they need a pair or end."""
        while at < len(self._rows):
            row = self._rows[at]
            if isinstance(row, Go):
                self._ahead_of_step(at, done, belief, places)
                return
            if isinstance(row, Stop):
                self._stop(row.room, belief, places)
                return
            if isinstance(row, See):
                seen = places & self.ground.marks[row.mark]
                if seen != 0:
                    self._wait(at, 0, belief, seen)
                if seen == places:
                    return
                places &= ~seen
                at = self.course.leads[at][1]
            else:
                at = self.course.leads[at][0 if self._holds(at, belief) else 1]
        self._end("end", places)

    def _holds(self, at, belief):
        direction, below, number = self._tests[at]
        return (belief[direction] < number) == below

    def _ahead_of_step(self, at, done, belief, places):
        way = WAYS[self._rows[at].way]
        width, height = self.ground.grid.size
        if 0 <= belief[0] + way[0] < width and 0 <= belief[1] + way[1] < height:
            self._wait(at, done, belief, places)
        else:
            self._end("halted", places)
            self._blame("halted", belief, places)

    def _stop(self, room, belief, places):
        self._end(room, places)
        self._blame("astray", belief, places & ~self.ground.rooms[room])

    def _end(self, word, places):
        self.ended[word] = self.ended.get(word, 0) | places

    def _blame(self, fault, belief, places):
        if places != 0 and fault not in self.faulty:
            self.faulty[fault] = (self._source, belief, places)

    def _wait(self, at, done, belief, places):
        """Runs wait at a position; only what is new there comes into the next wave."""
        reached = self.reached.setdefault((at, done), {})
        old = reached.get(belief, 0)
        new = places & ~old
        if new != 0:
            reached[belief] = old | new
            fresh = self._fresh.setdefault((at, done), {})
            fresh[belief] = fresh.get(belief, 0) | new


def explored(course, fault=None):
    """The waves of all runs, or, if there is such a fault, those until it comes first."""
    waves = Waves(course)
    waves.begin()
    _spread_all(waves, fault)
    return waves


def explored_from(course, at, done, belief, places, fault):
    """The same for the runs that have come ahead of a row with a belief, and are at some free places."""
    waves = Waves(course)
    waves.begin_at(at, done, belief, places)
    _spread_all(waves, fault)
    return waves


def need_never_end(waves):
    """Whether some of the runs that have been explored need never end."""
    left = waves.reached
    while len(left) > 0:
        # Where runs wait behind one pair more is a part of where they waited ahead of it. If it is all of that,
        # each standing has one in it from which a pair leads to it, so some standing comes twice in a run.
        further = Waves(waves.course)
        further.spread(left)
        if further.reached == left:
            return True
        left = further.reached
    return False


def _spread_all(waves, fault):
    wave = waves.take()
    while len(wave) > 0 and fault not in waves.faulty:
        waves.spread(wave)
        wave = waves.take()


def _test_of(row):
    return read_test(row.test) if isinstance(row, (If, While)) else None
