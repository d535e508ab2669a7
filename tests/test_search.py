"""Points [15] to [20] for many small sites and plans, compared with a plain search through all runs."""

import random
import unittest

from slipsights.cells import ends, stands
from slipsights.certificates import certificate, certificate_holds
from slipsights.deciding import drift, endless, longest, never, shortest
from slipsights.plans import Go, Plan, See
from slipsights.runs import play
from slipsights.sites import Mark, Room, Site
from slipsights.spans import Span
from tests.draws import drawn_plan, drawn_site
from tests.search import Everything, Search, is_end, is_right

FAULTS = ("barred", "halted", "astray")
WORDS = ["a", "b", "c", "barred", "halted", "end", "astray", "endless", "x", ""]


def drawn_bounds(draw):
    """The tight bounds of a drawn span that is not empty."""
    while True:
        ranges = [sorted((draw.randint(-width, width + 2), draw.randint(-width, width + 2))) for width in (3, 4, 4)]
        span = Span(*[tuple(one) for one in ranges])
        if span:
            return (span.belief, span.place, span.error)


class SearchCase(unittest.TestCase):
    def faults(self, site, plan, every):
        for fault in FAULTS:
            comes = fault in every.faults
            self.assertIs(never(site, plan, fault), not comes)
            run = shortest(site, plan, fault)
            paper = certificate(site, plan, fault)
            if comes:
                self.assertIsNone(paper)
                self.assertEqual(len(run), every.faults[fault])
                self.assertEqual(play(site, plan, run).faults, (fault,))
            else:
                self.assertIsNone(run)
                self.assertTrue(is_right(site, plan, fault, paper))
                self.assertIs(certificate_holds(site, plan, fault, paper), True)

    def rows(self, site, plan, every):
        for at in range(len(plan)):
            self.assertEqual(drift(site, plan, at), every.errors(at))
            self.assertEqual(set(stands(site, plan, at).members), every.places(at))
        for word in WORDS:
            self.assertEqual(set(ends(site, plan, word).members), every.ends.get(word, set()))

    def lengths(self, site, plan, every):
        most = every.longest()
        self.assertEqual(longest(site, plan), most)
        self.assertIs(never(site, plan, "endless"), most is not None)
        found = endless(site, plan)
        if most is not None:
            self.assertIsNone(found)
            return
        lead, ring = found
        self.assertGreater(len(ring), 0)
        before, behind = play(site, plan, lead), play(site, plan, lead + ring)
        standings = [(one.row, one.done, one.belief, one.place) for one in (before, behind)]
        self.assertEqual(standings[0], standings[1])
        self.assertIsNotNone(before.row)


class TestSmall(SearchCase):
    def test_drawn_plans(self):
        draw = random.Random(1)
        seen = {"faults": 0, "endless": 0, "waits": 0}
        for _ in range(700):
            site = drawn_site(draw)
            plan = drawn_plan(draw, site, 2, 9)
            every = Everything(site, plan)
            with self.subTest(site=str(site), plan=str(plan)):
                self.faults(site, plan, every)
                self.rows(site, plan, every)
                self.lengths(site, plan, every)
            seen["faults"] += len(every.faults)
            seen["waits"] += len(every.depth) > 20
            seen["endless"] += longest(site, plan) is None
        self.assertGreater(min(seen.values()), 10, seen)

    def test_no_drawn_plan_has_a_run_that_the_search_misses(self):
        draw = random.Random(2)
        for _ in range(100):
            site = drawn_site(draw)
            plan = drawn_plan(draw, site)
            search = Search(site, plan)
            pairs, outcomes = [], search.begin()
            for _ in range(9):
                pairs.append(draw.choice(sorted(outcomes)))
                outcome, played = outcomes[pairs[-1]], play(site, plan, pairs)
                if is_end(outcome):
                    self.assertEqual((played.ended, played.belief, played.place), outcome)
                    break
                self.assertEqual((played.row, played.done, played.belief, played.place), outcome)
                outcomes = search.behind(outcome)


class TestGreater(SearchCase):
    """Yards that are large enough for rooms to cut what stands into many pieces."""

    def site(self, draw):
        width, height = draw.randint(5, 9), draw.randint(3, 6)

        def box(reach):
            x, y = draw.randint(-1, width - 1), draw.randint(-1, height - 1)
            return (x, y), (x + draw.randint(0, reach), y + draw.randint(0, reach))

        rooms = [Room(name, *box(2), draw.random() < 0.4) for name in "abc"]
        marks = [Mark("l", (-1, -1), (width, height), draw.choice([0, 1, 2])), Mark("m", *box(6), draw.choice([0, 1, 3]))]
        return Site((width, height), tuple(draw.choice([0, 0, 1, 1, 2]) for _ in range(3)), rooms, marks)

    def test_drawn_plans(self):
        draw = random.Random(3)
        many = longer = 0
        while many < 40:
            site = self.site(draw)
            plan = drawn_plan(draw, site, 4, 10)
            every = Everything(site, plan)
            if len(every.depth) < 200:
                continue
            many += 1
            with self.subTest(site=str(site), plan=str(plan)):
                self.faults(site, plan, every)
                self.rows(site, plan, every)
                longer += self.spoilt(draw, site, plan)
        self.assertGreater(longer, 20)

    def spoilt(self, draw, site, plan):
        """Certificates with an entry too few; return how many there were."""
        papers = 0
        for fault in FAULTS:
            paper = certificate(site, plan, fault) or ()
            for _ in range(min(3, len(paper))):
                at = draw.randrange(len(paper))
                less = paper[:at] + paper[at + 1:]
                self.assertIs(certificate_holds(site, plan, fault, less), is_right(site, plan, fault, less))
                papers += 1
        return papers


class TestDrawnCertificates(SearchCase):
    def test_with_drawn_entries(self):
        draw = random.Random(4)
        right = wrong = 0
        for _ in range(900):
            site = drawn_site(draw)
            plan = drawn_plan(draw, site, 2, 9)
            rows = [at for at in range(len(plan)) if isinstance(plan[at], (Go, See))]
            if not rows:
                continue
            fault = draw.choice(FAULTS)
            entries = list(certificate(site, plan, fault) or ())
            draw.shuffle(entries)
            for _ in range(draw.randint(0, 3)):
                at = draw.choice(rows)
                done = draw.randrange(plan[at].steps) if isinstance(plan[at], Go) else 0
                entries.append((at, done, drawn_bounds(draw), drawn_bounds(draw)))
            paper = tuple(entries[draw.randint(0, 1):])
            with self.subTest(site=str(site), plan=str(plan), fault=fault, paper=paper):
                expected = is_right(site, plan, fault, paper)
                self.assertIs(certificate_holds(site, plan, fault, paper), expected)
            right, wrong = right + expected, wrong + (not expected)
        self.assertGreater(min(right, wrong), 100)


class TestEdges(SearchCase):
    """Sites and plans that the document names, each with all that can be asked."""

    def all(self, site, plan):
        site, plan = Site.read(site.replace(" ; ", "\n")), Plan.read(plan.replace(" ; ", "\n"))
        every = Everything(site, plan)
        self.faults(site, plan, every)
        self.rows(site, plan, every)
        self.lengths(site, plan, every)

    def test_yard_of_one_cell(self):
        for rows in ("", " ; go east 1", " ; see l ; go west 1 ; end", " ; while x < 1 ; go south 2 ; end", " ; stop a"):
            for blur in (0, 1):
                self.all("yard 1 1 ; slip 1 1 1 ; room a 0 0 0 0 ; mark l 0 0 0 0 1", f"start 0 0 {blur}{rows}")

    def test_ways(self):
        for way in ("east", "north", "west", "south"):
            for slips in ("0 0 0", "2 0 0", "0 2 0", "0 0 2", "1 2 0"):
                site = f"yard 6 5 ; slip {slips} ; room a 2 1 4 3 ; barred b 5 1 5 2 ; mark l 3 2 5 4 1"
                self.all(site, f"start 3 2 1 ; go {way} 2 ; see l ; go {way} 1 ; else ; stop a ; end")

    def test_rooms_about_a_loop(self):
        site = "yard 5 4 ; slip 0 1 1 ; room a 0 0 1 3 ; barred b 3 0 3 1 ; barred c 1 3 3 3 ; mark l 0 0 4 3 1"
        self.all(site, "start 1 1 0 ; while x < 4 ; go east 1 ; see l ; if y >= 2 ; go south 1 ; end ; end ; end ; stop a")
        self.all(site, "start 1 1 1 ; while y < 2 ; go north 1 ; go south 1 ; see l ; end ; end ; stop a")
        self.all(site, "start 2 1 0 ; while x >= 1 ; go west 1 ; while x < 2 ; go east 1 ; end ; end")


if __name__ == "__main__":
    unittest.main()
