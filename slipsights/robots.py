"""Robots: runs as the robot itself knows them, by its belief and by what it has seen and missed."""

from slipsights.cells import Cells
from slipsights.checks import is_cell
from slipsights.errors import Refused
from slipsights.grids import Ground, swept
from slipsights.plans import WAYS, Go, See
from slipsights.runs import Course
from slipsights.waves import explored_from, need_never_end


class Robot:
    """A run of which the slips and the errors are not known, only the beliefs, sights and misses."""

    def __init__(self, site, plan):
        self._course = Course(site, plan)
        self._ground = Ground(site, plan)
        self._past = ()
        self._places = self._ground.start & self._ground.free
        if self._places == 0:
            raise Refused("never")
        self._come_to(0, 0, plan.start)

    def cells(self):
        """All places where it can be."""
        return Cells(self._ground.grid.cells_of(self._places))

    def step(self):
        """The next step was done, and the robot was not barred."""
        row = self._row_ahead()
        if not isinstance(row, Go):
            raise Refused("row")
        way = WAYS[row.way]
        at, done = self._course.after(self.row, self.done)
        belief = (self.belief[0] + way[0], self.belief[1] + way[1])
        self._do(at, done, belief, swept(self._places, self._ground.steps[row.way]) & self._ground.free)

    def sight(self, belief):
        """The landmark was seen, and the belief became this cell."""
        row = self._row_ahead()
        if not isinstance(row, See):
            raise Refused("row")
        if not is_cell(belief):
            raise Refused("belief")
        at = self._course.leads[self.row][0]
        self._do(at, 0, belief, self._places & self._seen_with(row.mark, belief))

    def miss(self):
        """The landmark was missed."""
        row = self._row_ahead()
        if not isinstance(row, See):
            raise Refused("row")
        at = self._course.leads[self.row][1]
        self._do(at, 0, self.belief, self._places & ~self._ground.marks[row.mark])

    def may(self, fault):
        """Whether a run that agrees with all that the robot knows can have the fault in the end."""
        if self.ended is not None:
            return self._may_have_had(fault)
        waves = explored_from(self._course, self.row, self.done, self.belief, self._places, fault)
        if fault == "endless":
            return need_never_end(waves)
        return fault in waves.faulty

    def undo(self):
        """Take back the last deed; return whether there was one."""
        if len(self._past) == 0:
            return False
        self.belief, self.row, self.done, self.ended, self._places = self._past[-1]
        self._past = self._past[:-1]
        return True

    def trial(self):
        """A context manager behind which the robot is as it was when it was entered."""
        return Trial(self)

    def within(self, work):
        """What some work with the robot returns; behind it the robot is as it was."""
        with Trial(self) as robot:
            return work(robot)

    def _row_ahead(self):
        """The row at which it waits, or None."""
        return None if self.row is None else self._course.plan[self.row]

    def _seen_with(self, name, belief):
        """The cells from which a sight of a landmark can lead to a belief."""
        site = self._course.site
        if not site.in_yard(belief):
            return 0
        blur = site.mark_of(name).blur
        x, y = belief
        near = self._ground.grid.rectangle((x - blur, y - blur), (x + blur, y + blur))
        return near & self._ground.marks[name]

    def _do(self, at, done, belief, places):
        """Do a deed that leads ahead of a row, unless it leads to no place."""
        if places == 0:
            raise Refused("never")
        self._past = self._past + ((self.belief, self.row, self.done, self.ended, self._places),)
        self._places = places
        self._come_to(at, done, belief)

    def _come_to(self, at, done, belief):
        """Go on ahead of a row to where the next deed is needed, or to the end."""
        standing = self._course.gone_to_deed(at, done, belief, None)
        self.belief = belief
        self.row = standing.row
        self.done = standing.done
        self.ended = standing.ended

    def _may_have_had(self, fault):
        """The same as `may` for a robot that has ended."""
        if self.ended in ("halted", "end"):
            return fault == self.ended
        return fault == "astray" and self._places & ~self._ground.rooms[self.ended] != 0

    def __len__(self):
        return len(self._past)


class Trial:
    """A block behind which a robot is as it was ahead of it."""

    def __init__(self, robot):
        self._robot = robot

    def __enter__(self):
        robot = self._robot
        self._belief = robot.belief
        self._row = robot.row
        self._done = robot.done
        self._ended = robot.ended
        self._places = robot._places
        self._past = robot._past
        return robot

    def __exit__(self, kind, value, trace):
        robot = self._robot
        robot.belief = self._belief
        robot.row = self._row
        robot.done = self._done
        robot.ended = self._ended
        robot._places = self._places
        robot._past = self._past
