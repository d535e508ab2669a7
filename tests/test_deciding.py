"""What runs can do, points [15] and [16]; a comparison with a plain search is in test_search.py."""

import unittest

from slipsights.deciding import drift, endless, longest, never, shortest
from slipsights.errors import Mismatch, NoRow
from slipsights.plans import Plan
from slipsights.runs import play
from slipsights.sites import Site

BIG = 10 ** 24 + 7
FAULTS = ("barred", "halted", "astray")


def site_of(text):
    return Site.read(text.replace(" ; ", "\n"))


def plan_of(text):
    return Plan.read(text.replace(" ; ", "\n"))


class DecidingCase(unittest.TestCase):
    def comes(self, site, rows, fault, many):
        """The fault comes, first behind so many pairs."""
        plan = plan_of(rows)
        self.assertIs(never(site, plan, fault), False)
        run = shortest(site, plan, fault)
        self.assertIs(type(run), tuple)
        self.assertEqual(len(run), many)
        self.assertEqual(play(site, plan, run).faults, (fault,))

    def never_comes(self, site, rows, *faults):
        for fault in faults:
            self.assertIs(never(site, plan_of(rows), fault), True)
            self.assertIsNone(shortest(site, plan_of(rows), fault))

    def goes_round(self, site, rows):
        """Some run never ends; return the pairs that show it."""
        plan = plan_of(rows)
        self.assertIsNone(longest(site, plan))
        self.assertIs(never(site, plan, "endless"), False)
        lead, ring = endless(site, plan)
        self.assertEqual((type(lead), type(ring)), (tuple, tuple))
        self.assertGreater(len(ring), 0)
        first, second, third = [play(site, plan, lead + ring * many) for many in range(3)]
        for other in (second, third):
            self.assertIsNone(other.ended)
            self.assertEqual(
                (other.row, other.done, other.belief, other.place), (first.row, first.done, first.belief, first.place),
            )
        self.assertIsNotNone(first.row)
        return lead, ring

    def ends_after(self, site, rows, many):
        plan = plan_of(rows)
        self.assertEqual(longest(site, plan), many)
        self.assertIs(never(site, plan, "endless"), True)
        self.assertIsNone(endless(site, plan))


class TestFaults(DecidingCase):
    def setUp(self):
        self.site = site_of(
            "yard 9 5 ; slip 0 1 0 ; room goal 6 0 8 4 ; barred pit 4 2 4 2 ; mark lamp 3 0 8 4 0 ; mark sun 0 0 8 4 1"
        )

    def test_barred_by_a_room(self):
        self.comes(self.site, "start 0 2 0 ; go east 2", "barred", 3)
        self.comes(self.site, "start 0 2 0 ; go east 4", "barred", 3)
        self.never_comes(self.site, "start 0 1 0 ; go east 4", *FAULTS)

    def test_a_slip_may_lead_across_a_room(self):
        plan = plan_of("start 3 2 0 ; go east 1")
        self.assertEqual(shortest(self.site, plan, "barred"), ((0, 0), (0, 0)))
        self.assertEqual(play(self.site, plan, [(0, 0), (1, 0)]).ended, "end")

    def test_barred_outside_of_the_yard(self):
        self.comes(self.site, "start 4 0 0 ; go east 3", "barred", 4)
        self.comes(self.site, "start 8 4 1", "barred", 1)
        self.never_comes(self.site, "start 7 3 1", *FAULTS)

    def test_halted(self):
        self.comes(self.site, "start 0 0 0 ; go south 1", "halted", 1)
        self.comes(self.site, "start 0 1 0 ; go south 2", "halted", 2)
        self.never_comes(self.site, "start 0 2 0 ; go south 1", *FAULTS)
        self.comes(self.site, "start 0 4 0 ; see sun ; go south 4 ; end", "halted", 5)
        self.never_comes(self.site, "start 1 4 0 ; see sun ; go south 3 ; end", "halted")

    def test_astray(self):
        self.comes(self.site, "start 1 0 0 ; go east 4 ; stop goal", "astray", 5)
        self.never_comes(self.site, "start 2 0 0 ; go east 2 ; go north 1 ; see lamp ; if x >= 6 ; stop goal ; end ; end", "astray")
        self.comes(self.site, "start 0 0 0 ; stop goal", "astray", 1)
        self.comes(self.site, "start 7 3 0 ; stop pit", "astray", 1)
        self.never_comes(self.site, "start 7 3 0 ; stop goal", *FAULTS)

    def test_only_the_fewest_pairs(self):
        rows = "start 2 1 1 ; see sun ; if x < 2 ; go south 9 ; else ; go north 2 ; go south 9 ; end ; end"
        self.comes(self.site, rows, "halted", 2)
        self.comes(self.site, "start 3 0 0 ; while x < 8 ; go east 1 ; end", "barred", 4)
        rows = "start 1 2 0 ; go west 1 ; go north 1 ; while x < 7 ; go east 1 ; end"
        self.comes(self.site, rows, "barred", 2)
        self.never_comes(self.site, rows, "halted", "astray")

    def test_behind_a_sight_the_belief_says_something_about_the_error(self):
        site = site_of("yard 9 1 ; slip 0 0 0 ; barred low 0 0 1 0 ; mark sun 0 0 8 0 2")
        rows = "start 3 0 0 ; see sun ; if x < 2 ; go west 1 ; end ; end"
        self.assertEqual(drift(site, plan_of(rows), 0), ((0, 0), (0, 0)))
        self.assertEqual(drift(site, plan_of(rows), 2), ((2, 2), (0, 0)))
        self.never_comes(site, rows, *FAULTS)
        rows = "start 3 0 0 ; see sun ; if x < 4 ; go west 1 ; if x < 2 ; go west 1 ; end ; end ; end"
        self.comes(site, rows, "barred", 4)
        self.comes(site, rows, "halted", 3)

    def test_back_through_several_sights(self):
        site = site_of("yard 9 5 ; slip 0 0 0 ; room goal 0 0 0 0 ; mark dull 0 0 8 4 2 ; mark sharp 0 0 8 4 0")
        # The last belief cannot come from the sharp landmark, though its runs wait at the same places.
        self.comes(
            site, "start 4 2 0 ; see dull ; if y < 2 ; see sharp ; end ; else ; see dull ; end ; end ; "
            "if x < 3 ; go north 1 ; stop goal ; end ; end", "astray", 4,
        )
        self.comes(site, "start 4 2 1 ; see sharp ; see sharp ; if x >= 5 ; stop goal ; end ; end ; end", "astray", 3)
        self.comes(site, "start 4 2 1 ; see sharp ; see dull ; if x >= 7 ; stop goal ; end ; end ; end", "astray", 3)

    def test_start_barred_in_part(self):
        rows = "start 4 3 1 ; go north 1 ; stop goal"
        self.comes(self.site, rows, "barred", 1)
        self.assertEqual(shortest(self.site, plan_of(rows), "barred"), ((0, -1),))
        self.comes(self.site, rows, "astray", 2)

    def test_start_barred_wholly(self):
        rows = "start 4 2 0 ; go north 9 ; stop goal"
        self.comes(self.site, rows, "barred", 1)
        self.never_comes(self.site, rows, "halted", "astray")
        self.assertEqual(longest(self.site, plan_of(rows)), 1)
        self.assertIsNone(drift(self.site, plan_of(rows), 0))
        site = site_of("yard 3 3 ; slip 1 1 1 ; barred all -9 -9 9 9")
        self.comes(site, "start 1 1 3 ; go east 1", "barred", 1)
        self.never_comes(site, "start 1 1 3 ; go east 9", "halted")

    def test_plan_without_rows(self):
        self.never_comes(self.site, "start 1 1 1", *FAULTS)
        self.comes(self.site, "start 0 1 1", "barred", 1)
        self.ends_after(self.site, "start 1 1 1", 1)
        with self.assertRaises(NoRow):
            drift(self.site, plan_of("start 1 1 1"), 0)

    def test_slips_of_nought(self):
        site = site_of("yard 5 5 ; slip 0 0 0 ; room goal 4 4 4 4 ; barred pit 2 2 2 2")
        self.never_comes(site, "start 0 0 0 ; go east 4 ; go north 4 ; stop goal", *FAULTS)
        self.comes(site, "start 0 0 0 ; go east 2 ; go north 2 ; stop goal", "barred", 5)
        self.comes(site, "start 0 0 0 ; go east 4 ; go north 3 ; stop goal", "astray", 8)
        self.ends_after(site, "start 0 0 0 ; go east 4 ; go north 4 ; stop goal", 9)


class TestSights(DecidingCase):
    def test_surely_seen(self):
        site = site_of("yard 7 1 ; slip 0 0 0 ; room goal 5 0 6 0 ; mark sun 0 0 6 0 0 ; mark dark 9 9 9 9 0")
        self.never_comes(site, "start 3 0 2 ; see sun ; else ; go west 9 ; end", "halted", "astray")
        self.assertEqual(drift(site, plan_of("start 3 0 2 ; see sun ; else ; go west 9 ; end"), 0), ((-2, 2), (0, 0)))
        self.assertIsNone(drift(site, plan_of("start 3 0 2 ; see sun ; else ; go west 9 ; end"), 1))

    def test_surely_missed(self):
        site = site_of("yard 7 1 ; slip 0 0 0 ; room goal 5 0 6 0 ; mark dark 9 9 9 9 0 ; mark edge 0 0 0 0 3")
        rows = "start 3 0 0 ; see dark ; go west 9 ; else ; go east 1 ; end ; see edge ; go west 9 ; end"
        self.never_comes(site, rows, *FAULTS)
        self.assertEqual([drift(site, plan_of(rows), at) for at in (0, 1, 3, 4)], [None] * 4)
        self.assertEqual(drift(site, plan_of(rows), 2), ((0, 0), (0, 0)))
        self.ends_after(site, rows, 2)

    def test_belief_outside_of_the_yard_cannot_be_seen(self):
        site = site_of("yard 4 4 ; slip 0 0 0 ; mark sun 0 0 3 3 2")
        for x, y, low, high in [(0, 0, (-2, -2), (0, 0)), (3, 1, (0, -2), (2, 1)), (1, 3, (-2, 0), (1, 2))]:
            rows = f"start {x} {y} 0 ; see sun ; if x < 4 ; see sun ; end ; end ; end"
            self.assertEqual(drift(site, plan_of(rows), 2), ((low[0], high[0]), (low[1], high[1])))
            self.never_comes(site, rows, *FAULTS)

    def test_marks_that_reach_out_of_the_yard(self):
        site = site_of("yard 3 3 ; slip 0 0 0 ; mark sun -9 -9 1 9 1")
        rows = "start 1 1 1 ; see sun ; see sun ; end ; else ; go west 2 ; go south 1 ; end"
        self.assertEqual(drift(site, plan_of(rows), 2), ((1, 1), (-1, 1)))
        self.comes(site, "start 1 1 1 ; see sun ; else ; go west 2 ; end", "halted", 2)


    def test_marks_and_rooms_outside_of_the_yard(self):
        outside = [(x, y) for x in range(-5, 9) for y in range(-5, 9) if not (0 <= x < 3 and 0 <= y < 3)]
        for x, y in outside:
            site = site_of(
                f"yard 3 3 ; slip 0 0 0 ; room goal {x} {y} {x} {y} ; barred pit {x} {y} {x} {y} ; mark sun {x} {y} {x} {y} 0"
            )
            self.never_comes(site, "start 1 1 1 ; see sun ; go east 9 ; end", *FAULTS)
            self.never_comes(site, "start 1 1 1 ; if x < 0 ; stop goal ; end", *FAULTS)
            self.comes(site, "start 1 1 0 ; stop goal", "astray", 1)
        for low, high in [((-9, 3), (9, 9)), ((-9, -9), (9, -1)), ((3, -9), (9, 9)), ((-9, -9), (-1, 9))]:
            box = f"{low[0]} {low[1]} {high[0]} {high[1]}"
            site = site_of(f"yard 3 3 ; slip 0 0 0 ; barred pit {box} ; mark sun {box} 3")
            self.never_comes(site, "start 1 1 1 ; see sun ; go east 9 ; end", *FAULTS)


class TestLongest(DecidingCase):
    def setUp(self):
        self.site = site_of("yard 6 4 ; slip 0 1 0 ; room goal 3 0 5 3 ; mark lamp 3 0 5 3 0")

    def test_all_runs_end(self):
        self.ends_after(self.site, "start 0 0 0 ; go east 2 ; go north 3 ; stop goal", 6)
        self.ends_after(self.site, "start 0 0 0 ; stop goal ; go east 2", 1)
        self.ends_after(self.site, "start 0 0 0 ; while x < 3 ; go east 1 ; end", 4)
        self.ends_after(self.site, "start 0 0 0 ; go east 2 ; see lamp ; go north 1 ; end", 5)
        self.ends_after(self.site, "start 0 0 0 ; go north 9", 4)

    def test_loops_that_need_no_pair(self):
        self.ends_after(self.site, "start 3 0 0 ; while x < 3 ; go east 1 ; end", 1)
        self.ends_after(self.site, "start 0 0 0 ; while x < 3 ; go south 1 ; end", 1)
        self.ends_after(self.site, "start 3 0 0 ; while x < 3 ; go east 1 ; end ; while y >= 1 ; go south 1 ; end", 1)

    def test_runs_that_need_never_end(self):
        still = site_of("yard 6 4 ; slip 0 0 0 ; mark lamp 0 0 5 3 1")
        lead, ring = self.goes_round(still, "start 0 0 0 ; while x < 3 ; go east 1 ; go west 1 ; end")
        self.assertEqual((len(ring) % 2, set(ring)), (0, {(0, 0)}))
        self.goes_round(still, "start 3 0 0 ; while y < 9 ; go north 3 ; go south 3 ; end")
        self.goes_round(still, "start 2 1 1 ; while x < 4 ; go east 1 ; see lamp ; go west 1 ; end ; end")
        self.goes_round(self.site, "start 1 0 0 ; while x < 3 ; go east 1 ; go west 1 ; end")
        self.goes_round(site_of("yard 6 4 ; slip 1 1 1"), "start 3 1 0 ; while x >= 0 ; go north 1 ; go south 1 ; end")

    def test_endless_behind_a_lead(self):
        site = site_of("yard 6 4 ; slip 0 0 0")
        lead, _ = self.goes_round(site, "start 0 0 0 ; go east 2 ; go north 2 ; while x < 3 ; go east 1 ; go west 1 ; end")
        self.assertGreaterEqual(len(lead), 5)

    def test_loops_that_barred_rooms_end(self):
        rows = "start 0 0 0 ; while x < 2 ; go east 1 ; go west 1 ; end"
        self.goes_round(site_of("yard 3 1 ; slip 0 0 0"), rows)
        self.ends_after(site_of("yard 3 1 ; slip 0 0 0 ; barred pit 1 0 1 0"), rows, 2)
        self.ends_after(site_of("yard 9 1 ; slip 0 0 0"), "start 0 0 0 ; while x < 9 ; go east 1 ; end", 9)

    def test_loops_that_landmarks_end(self):
        site = site_of("yard 5 1 ; slip 0 0 0 ; room goal 0 0 4 0 ; mark lamp 2 0 2 0 1")
        self.ends_after(site, "start 0 0 0 ; while x < 9 ; go east 1 ; see lamp ; stop goal ; end ; end", 4)
        self.ends_after(site, "start 2 0 0 ; see lamp ; while x < 2 ; go east 1 ; end ; end", 3)


class TestDrift(DecidingCase):
    def setUp(self):
        self.site = site_of("yard 9 9 ; slip 1 2 1 ; room goal 0 0 8 8 ; mark lamp 4 0 8 8 1")

    def test_errors_grow(self):
        site = site_of("yard 40 40 ; slip 1 2 1 ; room goal 0 0 9 9")
        rows = "start 20 20 0 ; go north 1 ; go east 2 ; go west 1 ; go south 1 ; stop goal"
        found = [drift(site, plan_of(rows), at) for at in range(5)]
        self.assertEqual(
            found, [((0, 0), (0, 0)), ((-2, 3), (-2, 3)), ((-3, 5), (-3, 4)), ((-5, 6), (-4, 5)), None],
        )

    def test_all_steps_of_a_go_count(self):
        site = site_of("yard 9 3 ; slip 0 1 0")
        self.assertEqual(drift(site, plan_of("start 0 1 0 ; go east 3"), 0), ((0, 2), (0, 0)))
        self.assertEqual(drift(site, plan_of("start 8 1 0 ; go west 3"), 0), ((-2, 0), (0, 0)))
        site = site_of("yard 3 9 ; slip 0 1 0")
        self.assertEqual(drift(site, plan_of("start 1 0 0 ; go north 3 ; go south 1"), 1), ((0, 0), (0, 3)))

    def test_start(self):
        self.assertEqual(drift(self.site, plan_of("start 4 4 3 ; go east 1"), 0), ((-3, 3), (-3, 3)))
        self.assertEqual(drift(self.site, plan_of("start 0 8 3 ; go east 1"), 0), ((0, 3), (-3, 0)))

    def test_sees(self):
        rows = "start 3 4 2 ; see lamp ; go east 1 ; else ; go west 1 ; end"
        found = [drift(self.site, plan_of(rows), at) for at in range(3)]
        self.assertEqual(found, [((1, 2), (-2, 2)), ((-1, 1), (-1, 1)), ((-2, 0), (-2, 2))])

    def test_rows_at_which_no_run_waits(self):
        rows = "start 4 4 0 ; if x < 4 ; go east 1 ; end ; while y < 3 ; go south 1 ; end ; stop goal ; go north 1"
        for at in range(6):
            self.assertIsNone(drift(self.site, plan_of(rows), at))
        # At a halted step no run waits.
        self.assertIsNone(drift(self.site, plan_of("start 0 4 0 ; go west 1"), 0))

    def test_numbers_of_rows_that_are_none(self):
        for rows, many in [("start 4 4 0 ; go east 2 ; if x < 1 ; go west 1 ; end", 3), ("start 4 4 0", 0)]:
            for at in (-1, many, many + 1, -many - 1, BIG, -BIG):
                with self.assertRaises(NoRow) as caught:
                    drift(self.site, plan_of(rows), at)
                self.assertEqual(caught.exception.at, at)


class TestMismatch(unittest.TestCase):
    def calls(self, site, plan):
        for fault in FAULTS:
            yield lambda: never(site, plan, fault)
            yield lambda: shortest(site, plan, fault)
        yield lambda: never(site, plan, "endless")
        yield lambda: longest(site, plan)
        yield lambda: endless(site, plan)
        for at in (0, -1, 99):
            yield lambda: drift(site, plan, at)

    def test_each_function(self):
        site = site_of("yard 4 3 ; slip 0 0 0 ; room hall 0 0 1 1 ; mark lamp 0 0 3 2 0")
        for rows, name in [
            ("start 4 0 0", "start"), ("start 0 3 0 ; stop none", "start"), ("start -1 0 0", "start"),
            ("start 0 0 0 ; stop none", "none"), ("start 0 0 0 ; see hall ; end", "hall"),
            ("start 0 0 0 ; stop hall ; stop lamp ; stop none", "lamp"),
            ("start 0 0 0 ; if x < 9 ; see b ; end ; else ; stop a ; end", "b"),
        ]:
            for call in self.calls(site, plan_of(rows)):
                with self.assertRaises(Mismatch) as caught:
                    call()
                self.assertEqual(caught.exception.name, name)


class TestCalls(DecidingCase):
    def setUp(self):
        self.site = site_of("yard 8 1 ; slip 0 1 0 ; room goal 4 0 7 0 ; mark lamp 3 0 5 0 0")
        self.plan = plan_of("start 0 0 0 ; go east 4 ; stop goal")

    def test_by_name(self):
        self.assertIs(never(fault="barred", plan=self.plan, site=self.site), False)
        self.assertEqual(len(shortest(fault="barred", plan=self.plan, site=self.site)), 5)
        self.assertEqual(longest(plan=self.plan, site=self.site), 5)
        self.assertIsNone(endless(plan=self.plan, site=self.site))
        self.assertEqual(drift(at=0, plan=self.plan, site=self.site), ((0, 3), (0, 0)))

    def test_same_call_same_result(self):
        texts = str(self.site), str(self.plan)
        first = [shortest(self.site, self.plan, fault) for fault in FAULTS]
        drift(self.site, self.plan, 0)
        self.assertEqual([shortest(self.site, self.plan, fault) for fault in FAULTS], first)
        self.assertEqual((str(self.site), str(self.plan)), texts)


if __name__ == "__main__":
    unittest.main()
