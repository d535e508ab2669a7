"""The greatest inputs of point [3]: each call must be answered in a few seconds."""

import time
import unittest

from slipsights.cells import Cells, ends, stands
from slipsights.certificates import certificate, certificate_holds
from slipsights.deciding import drift, endless, longest, never, shortest
from slipsights.plans import Plan
from slipsights.runs import play
from slipsights.sites import Site
from slipsights.spans import Span

# Far more than it takes, as the machine may be a slow one.
SECONDS = 15
FAULTS = ("barred", "halted", "astray")
BARRED = " ; barred a 20 10 25 20 ; barred b 40 0 42 15 ; barred c 10 30 30 32 ; room d 50 30 59 39"
ROOMS = " ; room a 20 10 25 20 ; room b 40 0 42 15 ; room c 10 30 30 32 ; room d 50 30 59 39"
MARKS = " ; mark lamp 0 0 59 39 3 ; mark sun 30 5 50 35 1 ; mark moon -9 20 20 50 2"
ROUND = (
    "start 5 5 3 ; while x < 99 ; go east 9 ; see lamp ; go north 9 ; go west 9 ; end ; "
    "while y >= 5 ; go south 9 ; go east 9 ; end ; go north 9 ; go west 9 ; see sun ; end ; end"
)
SLOW = (
    "start 5 5 3 ; while x < 99 ; go east 1 ; see lamp ; go north 2 ; go west 1 ; end ; if x < 30 ; go south 9 ; "
    "else ; go west 7 ; end ; while y < 36 ; go north 1 ; end ; go south 9 ; go south 9 ; end"
)
FAR = (
    "start 0 0 0 ; while x < 59 ; go east 1 ; while y < 39 ; go north 1 ; end ; go south 9 ; go south 9 ; "
    "go south 9 ; go south 9 ; go south 3 ; end ; go north 9 ; go east 1 ; stop d"
)


def site_of(text):
    return Site.read(text.replace(" ; ", "\n"))


def plan_of(text):
    return Plan.read(text.replace(" ; ", "\n"))


class LimitCase(unittest.TestCase):
    def timed(self, call, *arguments):
        begin = time.perf_counter()
        result = call(*arguments)
        self.assertLess(time.perf_counter() - begin, SECONDS, (call.__name__, str(arguments)[:200]))
        return result


class TestGreatYards(LimitCase):
    def all(self, site, plan, comes):
        """Ask all; `comes` has the number of pairs at which each fault comes, or None."""
        for fault, many in zip(FAULTS, comes):
            self.assertIs(self.timed(never, site, plan, fault), many is None)
            run = self.timed(shortest, site, plan, fault)
            paper = self.timed(certificate, site, plan, fault)
            if many is None:
                self.assertIsNone(run)
                self.assertIs(self.timed(certificate_holds, site, plan, fault, paper), True)
            else:
                self.assertIsNone(paper)
                self.assertEqual(len(run), many)
                self.assertEqual(play(site, plan, run).faults, (fault,))
        self.timed(drift, site, plan, 1)
        self.timed(stands, site, plan, len(plan) - 1)
        for word in ("barred", "d"):
            self.timed(ends, site, plan, word)

    def test_wide_slips_and_barred_rooms(self):
        self.all(site_of("yard 60 40 ; slip 3 3 3" + BARRED + MARKS), plan_of(ROUND), (2, 12, None))

    def test_narrow_slips_and_barred_rooms(self):
        self.all(site_of("yard 60 40 ; slip 1 1 1" + BARRED + MARKS), plan_of(ROUND), (4, 20, None))

    def test_slow_loops(self):
        self.all(site_of("yard 60 40 ; slip 1 0 0" + BARRED + MARKS), plan_of(SLOW), (9, 5, None))
        self.all(site_of("yard 60 40 ; slip 0 0 1" + ROOMS + MARKS), plan_of(SLOW), (7, 5, None))

    def test_long_runs(self):
        site = site_of("yard 60 40 ; slip 0 0 0" + ROOMS + MARKS)
        self.all(site, plan_of(FAR), (None, 1 + 59 * 79 + 9, None))

    def test_far_runs_that_stop(self):
        site = site_of("yard 60 40 ; slip 0 0 0" + ROOMS + MARKS)
        plan = plan_of(FAR.replace("go east 1 ; stop d", "stop d"))
        self.all(site, plan, (None, None, 1 + 59 * 79 + 9))

    def test_barred_rooms_that_keep_a_fault_away(self):
        # No place is far enough to the south to stop astray, but only as the cells there are barred.
        site = site_of("yard 60 40 ; slip 1 1 1 ; barred a 0 0 59 1 ; barred b 20 10 25 20 ; room d 0 2 59 39" + MARKS)
        rows = "while x < 99 ; go east 5 ; see lamp ; go west 5 ; if y < 3 ; go north 9 ; stop d ; end ; end ; end"
        self.all(site, plan_of("start 9 9 0 ; " + rows), (10, 18, None))


class TestLengths(LimitCase):
    def test_all_yards_of_24_cells(self):
        for width, height in [(24, 1), (12, 2), (8, 3), (6, 4), (4, 6)]:
            site = site_of(f"yard {width} {height} ; slip 1 1 1 ; mark lamp 0 0 {width - 1} {height - 1} 1")
            for rows in (
                "while x < 99 ; go east 4 ; go west 4 ; go east 4 ; go west 4 ; see lamp ; go west 4 ; end ; end",
                "see lamp ; go east 4 ; go west 4 ; go north 4 ; go south 4 ; go east 4 ; go west 4 ; end",
                "see lamp ; while x < 99 ; go east 1 ; see lamp ; go west 1 ; go east 1 ; go west 1 ; end ; end ; end",
                "while x < 99 ; go east 1 ; while y >= 1 ; go south 1 ; see lamp ; go north 1 ; end ; end ; go west 1 ; end",
            ):
                self.lengths(site, plan_of("start 1 0 1 ; " + rows))

    def lengths(self, site, plan):
        most = self.timed(longest, site, plan)
        found = self.timed(endless, site, plan)
        self.assertIs(self.timed(never, site, plan, "endless"), most is not None)
        self.assertIs(found is None, most is not None)
        if found is not None:
            lead, ring = found
            before, behind = play(site, plan, lead), self.timed(play, site, plan, lead + ring)
            self.assertEqual((before.row, before.place), (behind.row, behind.place))
            self.assertIsNotNone(before.row)


class TestGreatCertificates(LimitCase):
    def test_200_entries(self):
        site = site_of("yard 60 40 ; slip 3 3 3" + BARRED + MARKS)
        plan = plan_of("start 5 5 3 ; see sun ; else ; see moon ; else ; go east 1 ; end ; end")
        for size in (30, 99, 10 ** 25):
            entries = []
            for k in range(200):
                low = -size + 2 * size * (k // 2) // 100
                span = Span((low, low + size // 40), (-size, size), (-size, size))
                across = (span.belief, span.place, span.error)
                wide = Span((-size, size), (-size, size), (-size - k, size))
                entries.append((k % 2, 0, across, (wide.belief, wide.place, wide.error)))
            for fault in FAULTS:
                self.timed(certificate_holds, site, plan, fault, tuple(entries))

    def test_many_entries(self):
        site = site_of("yard 60 40 ; slip 1 1 1" + BARRED + MARKS)
        plan = plan_of("start 5 5 3 ; go east 9 ; go north 9 ; see lamp ; go west 9 ; end ; go south 9")
        paper = self.timed(certificate, site, plan, "astray")
        for k in range(0, len(paper), len(paper) // 5 + 1):
            self.timed(certificate_holds, site, plan, "astray", paper[:k] + paper[k + 1:])


class TestGreatSets(LimitCase):
    def test_spans(self):
        big = 10 ** 25
        span = Span((-big, big), (-big, big), (-big, big))
        self.assertEqual(self.timed(getattr, span, "total"), (2 * big + 1) ** 2 - big * (big + 1))
        other = span.stepped(big, -big, big).sighted(-big, big, big)
        self.assertEqual(sum(piece.total for piece in self.timed(other.less, span)), other.total - (other & span).total)

    def test_cells(self):
        cells = Cells([(x, y) for x in range(60) for y in range(40)])
        grown = self.timed(cells.grown, (-99, -99), (99, 99))
        self.assertEqual(len(grown), (60 + 198) * (40 + 198))
        self.assertEqual(self.timed(lambda: grown ^ cells), grown - cells)
        self.assertTrue(self.timed(lambda: cells < grown))


if __name__ == "__main__":
    unittest.main()
