"""The greatest inputs of point [3]: each call must be answered in a few seconds."""

import time
import unittest

from slipsights.alike import alike, needless, parting
from slipsights.bearing import SLIPS, fewest_marks, widest
from slipsights.cells import Cells, ends, stands
from slipsights.certificates import certificate, certificate_holds
from slipsights.deciding import drift, endless, longest, never, shortest
from slipsights.desk import Desk
from slipsights.errors import Refused
from slipsights.plans import Plan
from slipsights.robots import Robot
from slipsights.runs import play
from slipsights.sites import Site
from slipsights.spans import Span

# Far more than it takes, as the machine may be a slow one.
SECONDS = 15
FAULTS = ("barred", "halted", "astray")
BARRED = " ; barred a 20 10 25 20 ; barred b 40 0 42 15 ; barred c 10 30 30 32 ; room d 50 30 59 39"
ROOMS = " ; room a 20 10 25 20 ; room b 40 0 42 15 ; room c 10 30 30 32 ; room d 50 30 59 39"
MARKS = " ; mark lamp 0 0 59 39 3 ; mark sun 30 5 50 35 1 ; mark moon -9 20 20 50 2"
ROUND = (
    "start 5 5 3 ; while x < 99 ; go east 9 ; see lamp ; go north 9 ; go west 9 ; end ; "
    "while y >= 5 ; go south 9 ; go east 9 ; end ; go north 9 ; go west 9 ; see sun ; end ; end"
)
SLOW = (
    "start 5 5 3 ; while x < 99 ; go east 1 ; see lamp ; go north 2 ; go west 1 ; end ; if x < 30 ; go south 9 ; "
    "else ; go west 7 ; end ; while y < 36 ; go north 1 ; end ; go south 9 ; go south 9 ; end"
)
FAR = (
    "start 0 0 0 ; while x < 59 ; go east 1 ; while y < 39 ; go north 1 ; end ; go south 9 ; go south 9 ; "
    "go south 9 ; go south 9 ; go south 3 ; end ; go north 9 ; go east 1 ; stop d"
)


def site_of(text):
    return Site.read(text.replace(" ; ", "\n"))


def plan_of(text):
    return Plan.read(text.replace(" ; ", "\n"))


class LimitCase(unittest.TestCase):
    def timed(self, call, *arguments):
        begin = time.perf_counter()
        result = call(*arguments)
        self.assertLess(time.perf_counter() - begin, SECONDS, (call.__name__, str(arguments)[:200]))
        return result


class TestGreatYards(LimitCase):
    def all(self, site, plan, comes):
        """Ask all; `comes` has the number of pairs at which each fault comes, or None."""
        for fault, many in zip(FAULTS, comes):
            self.assertIs(self.timed(never, site, plan, fault), many is None)
            run = self.timed(shortest, site, plan, fault)
            paper = self.timed(certificate, site, plan, fault)
            if many is None:
                self.assertIsNone(run)
                self.assertIs(self.timed(certificate_holds, site, plan, fault, paper), True)
            else:
                self.assertIsNone(paper)
                self.assertEqual(len(run), many)
                self.assertEqual(play(site, plan, run).faults, (fault,))
        self.timed(drift, site, plan, 1)
        self.timed(stands, site, plan, len(plan) - 1)
        for word in ("barred", "d"):
            self.timed(ends, site, plan, word)

    def test_wide_slips_and_barred_rooms(self):
        self.all(site_of("yard 60 40 ; slip 3 3 3" + BARRED + MARKS), plan_of(ROUND), (2, 12, None))

    def test_narrow_slips_and_barred_rooms(self):
        self.all(site_of("yard 60 40 ; slip 1 1 1" + BARRED + MARKS), plan_of(ROUND), (4, 20, None))

    def test_slow_loops(self):
        self.all(site_of("yard 60 40 ; slip 1 0 0" + BARRED + MARKS), plan_of(SLOW), (9, 5, None))
        self.all(site_of("yard 60 40 ; slip 0 0 1" + ROOMS + MARKS), plan_of(SLOW), (7, 5, None))

    def test_long_runs(self):
        site = site_of("yard 60 40 ; slip 0 0 0" + ROOMS + MARKS)
        self.all(site, plan_of(FAR), (None, 1 + 59 * 79 + 9, None))

    def test_far_runs_that_stop(self):
        site = site_of("yard 60 40 ; slip 0 0 0" + ROOMS + MARKS)
        plan = plan_of(FAR.replace("go east 1 ; stop d", "stop d"))
        self.all(site, plan, (None, None, 1 + 59 * 79 + 9))

    def test_barred_rooms_that_keep_a_fault_away(self):
        # No place is far enough to the south to stop astray, but only as the cells there are barred.
        site = site_of("yard 60 40 ; slip 1 1 1 ; barred a 0 0 59 1 ; barred b 20 10 25 20 ; room d 0 2 59 39" + MARKS)
        rows = "while x < 99 ; go east 5 ; see lamp ; go west 5 ; if y < 3 ; go north 9 ; stop d ; end ; end ; end"
        self.all(site, plan_of("start 9 9 0 ; " + rows), (10, 18, None))


class TestLengths(LimitCase):
    def test_all_yards_of_24_cells(self):
        for width, height in [(24, 1), (12, 2), (8, 3), (6, 4), (4, 6)]:
            site = site_of(f"yard {width} {height} ; slip 1 1 1 ; mark lamp 0 0 {width - 1} {height - 1} 1")
            for rows in (
                "while x < 99 ; go east 4 ; go west 4 ; go east 4 ; go west 4 ; see lamp ; go west 4 ; end ; end",
                "see lamp ; go east 4 ; go west 4 ; go north 4 ; go south 4 ; go east 4 ; go west 4 ; end",
                "see lamp ; while x < 99 ; go east 1 ; see lamp ; go west 1 ; go east 1 ; go west 1 ; end ; end ; end",
                "while x < 99 ; go east 1 ; while y >= 1 ; go south 1 ; see lamp ; go north 1 ; end ; end ; go west 1 ; end",
            ):
                self.lengths(site, plan_of("start 1 0 1 ; " + rows))

    def lengths(self, site, plan):
        most = self.timed(longest, site, plan)
        found = self.timed(endless, site, plan)
        self.assertIs(self.timed(never, site, plan, "endless"), most is not None)
        self.assertIs(found is None, most is not None)
        if found is not None:
            lead, ring = found
            before, behind = play(site, plan, lead), self.timed(play, site, plan, lead + ring)
            self.assertEqual((before.row, before.place), (behind.row, behind.place))
            self.assertIsNotNone(before.row)


class TestGreatCertificates(LimitCase):
    def test_200_entries(self):
        site = site_of("yard 60 40 ; slip 3 3 3" + BARRED + MARKS)
        plan = plan_of("start 5 5 3 ; see sun ; else ; see moon ; else ; go east 1 ; end ; end")
        for size in (30, 99, 10 ** 25):
            entries = []
            for k in range(200):
                low = -size + 2 * size * (k // 2) // 100
                span = Span((low, low + size // 40), (-size, size), (-size, size))
                across = (span.belief, span.place, span.error)
                wide = Span((-size, size), (-size, size), (-size - k, size))
                entries.append((k % 2, 0, across, (wide.belief, wide.place, wide.error)))
            for fault in FAULTS:
                self.timed(certificate_holds, site, plan, fault, tuple(entries))

    def test_many_entries(self):
        site = site_of("yard 60 40 ; slip 1 1 1" + BARRED + MARKS)
        plan = plan_of("start 5 5 3 ; go east 9 ; go north 9 ; see lamp ; go west 9 ; end ; go south 9")
        paper = self.timed(certificate, site, plan, "astray")
        for k in range(0, len(paper), len(paper) // 5 + 1):
            self.timed(certificate_holds, site, plan, "astray", paper[:k] + paper[k + 1:])


class TestGreatBearing(LimitCase):
    """Yards of 60 cells, and of 24 ones for runs that never end; plans of 7 rows."""

    ROWS = (
        "while x < 99 ; go east 9 ; see lamp ; go west 9 ; end ; see sun ; go east 9 ; go west 9 ; end ; end",
        "while x < 99 ; go east 1 ; while y < 5 ; go north 1 ; see lamp ; end ; see moon ; go south 5 ; end ; end ; end",
        "see lamp ; see sun ; see moon ; go west 4 ; stop d ; end ; end ; end ; go east 9 ; stop d",
        "see lamp ; while x < 3 ; go east 1 ; go west 1 ; end ; else ; go east 1 ; go west 1 ; go north 1 ; end",
    )
    ROUNDS = (
        "while x < 99 ; go east 4 ; go west 4 ; see lamp ; go west 4 ; else ; go east 4 ; end ; go west 4 ; end",
        "while x < 99 ; go east 1 ; while y < 5 ; go north 1 ; see lamp ; end ; see moon ; go south 4 ; end ; end ; end",
        "see lamp ; see sun ; while x < 9 ; go east 4 ; go west 4 ; end ; end ; end ; go east 4 ; stop d",
    )

    def bears(self, site, plan, faults):
        for slip in SLIPS:
            most = self.timed(widest, site, plan, faults, slip)
            for single in faults:
                alone = self.timed(widest, site, plan, [single], slip)
                self.assertTrue(most is None or most <= alone)
        names = self.timed(fewest_marks, site, plan, faults)
        self.assertTrue(names is None or len(names) <= 3)
        numbers = self.timed(needless, site, plan)
        self.assertLessEqual(len(numbers), 7)

    def test_yards_of_60_cells(self):
        for width, height in [(60, 1), (12, 5), (8, 7)]:
            marks = f" ; mark lamp 0 0 {width} {height} 3 ; mark sun 3 0 9 3 1 ; mark moon 0 0 9 0 0"
            for slips in ("3 3 3", "1 1 1", "0 1 0"):
                site = site_of(f"yard {width} {height} ; slip {slips} ; barred a 5 0 5 0 ; room d 2 0 9 9" + marks)
                for rows in self.ROWS:
                    self.bears(site, plan_of("start 1 0 3 ; " + rows), FAULTS)

    def test_runs_that_never_end(self):
        for width, height in [(24, 1), (8, 3), (6, 4)]:
            marks = f" ; mark lamp 0 0 {width} {height} 1 ; mark sun 3 0 9 3 1 ; mark moon 0 0 9 0 0"
            for slips in ("1 1 1", "0 1 0"):
                site = site_of(f"yard {width} {height} ; slip {slips} ; room d 2 0 9 9" + marks)
                for rows in self.ROUNDS:
                    self.bears(site, plan_of("start 1 0 1 ; " + rows), FAULTS + ("endless",))


class TestGreatPlansApart(LimitCase):
    def test_two_great_plans(self):
        site = site_of("yard 60 40 ; slip 1 0 0" + BARRED + MARKS)
        for one, other in [(SLOW, SLOW), (SLOW, SLOW.replace("go west 7", "go west 6")), (FAR, ROUND)]:
            p, q = plan_of(one), plan_of(other)
            apart = self.timed(parting, site, p, q)
            self.assertIs(self.timed(alike, site, q, p), apart is None)
            self.assertTrue(p != q or apart is None)


class TestGreatRobots(LimitCase):
    def test_40_deeds(self):
        lengths = []
        for slips in ("3 3 3", "1 1 1", "1 0 0"):
            site = site_of(f"yard 60 40 ; slip {slips}" + BARRED + MARKS)
            for rows in (ROUND, SLOW, FAR):
                robot = Robot(site, plan_of(rows))
                while len(robot) < 40 and self.goes_on(robot):
                    if len(robot) % 16 == 1:
                        self.ask(robot)
                self.ask(robot)
                many = len(robot)
                lengths.append(many)
                self.assertEqual(robot.within(lambda one: (one.undo(), len(one))), (True, many - 1))
                self.assertEqual(len(robot), many)
        self.assertGreater(lengths.count(40), 5, lengths)

    def ask(self, robot):
        self.assertGreater(len(self.timed(robot.cells)), 0)
        for fault in FAULTS:
            self.timed(robot.may, fault)

    def goes_on(self, robot):
        """Do some deed that does not end the robot; return whether there is one."""
        cells = self.timed(robot.cells).members
        beliefs = [cells[at * (len(cells) - 1) // 4] for at in (2, 1, 3, 0, 4)]
        for deed, arguments in [(robot.step, ()), (robot.miss, ())] + [(robot.sight, (one,)) for one in beliefs]:
            try:
                self.timed(deed, *arguments)
            except Refused:
                continue
            if robot.ended is None:
                return True
            robot.undo()
        return False

    def test_runs_that_never_end(self):
        site = site_of("yard 8 3 ; slip 1 1 1 ; mark lamp 0 0 7 2 1")
        rows = "while x < 99 ; go east 4 ; go west 4 ; see lamp ; go west 1 ; end ; go east 1 ; go west 1 ; end"
        robot = Robot(site, plan_of("start 1 0 1 ; " + rows))
        self.assertIs(self.timed(robot.may, "endless"), True)
        robot.step()
        self.assertIs(self.timed(robot.may, "endless"), True)


class TestGreatDesks(LimitCase):
    def test_great_sites_and_plans(self):
        desk = Desk()
        desk.say("site yard 60 40 ; slip 1 0 0" + BARRED + MARKS)
        desk.say("plan " + SLOW)
        self.assertEqual(self.timed(desk.say, "never barred"), "no 9")
        self.timed(desk.say, "ends barred")
        desk.say("site yard 12 5 ; slip 1 1 1 ; room d 0 0 5 5" + MARKS)
        for rows in TestGreatBearing.ROWS:
            desk.say("plan start 1 0 3 ; " + rows)
            for command in ("widest side barred", "widest ahead halted", "marks barred", "marks astray", "ends end"):
                self.timed(desk.say, command)
        desk.say("site yard 6 4 ; slip 1 1 1 ; room d 0 0 5 5 ; mark lamp 0 0 5 3 1 ; mark sun 0 0 5 3 0 ; mark moon 0 0 1 1 1")
        for rows in TestGreatBearing.ROUNDS:
            desk.say("plan start 1 0 1 ; " + rows)
            for command in ("widest side endless", "longest", "marks endless", "never endless"):
                self.timed(desk.say, command)


class TestGreatSets(LimitCase):
    def test_spans(self):
        big = 10 ** 25
        span = Span((-big, big), (-big, big), (-big, big))
        self.assertEqual(self.timed(getattr, span, "total"), (2 * big + 1) ** 2 - big * (big + 1))
        other = span.stepped(big, -big, big).sighted(-big, big, big)
        self.assertEqual(sum(piece.total for piece in self.timed(other.less, span)), other.total - (other & span).total)

    def test_cells(self):
        cells = Cells([(x, y) for x in range(60) for y in range(40)])
        grown = self.timed(cells.grown, (-99, -99), (99, 99))
        self.assertEqual(len(grown), (60 + 198) * (40 + 198))
        self.assertEqual(self.timed(lambda: grown ^ cells), grown - cells)
        self.assertTrue(self.timed(lambda: cells < grown))


if __name__ == "__main__":
    unittest.main()
