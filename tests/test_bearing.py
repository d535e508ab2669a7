"""The widest slips and the fewest landmarks, point [21]."""

import itertools
import random
import unittest

from slipsights.bearing import fewest_marks, widest
from slipsights.deciding import never
from slipsights.errors import Mismatch
from slipsights.plans import Go, Plan, See, Stop
from slipsights.sites import Mark, Room, Site
from tests.draws import WAYS, drawn_plan, drawn_site
from tests.search import Everything

FAULTS = ("barred", "halted", "astray", "endless")
SLIPS = ("back", "ahead", "side")


def site_of(text):
    return Site.read(text.replace(" ; ", "\n"))


def plan_of(text):
    return Plan.read(text.replace(" ; ", "\n"))


class TestWidest(unittest.TestCase):
    def setUp(self):
        self.site = site_of("yard 9 5 ; slip 0 0 0 ; room goal 6 0 8 4 ; barred pit 0 4 8 4 ; mark lamp 0 0 8 4 0")

    def widest(self, rows, slip, *faults):
        return widest(self.site, plan_of(rows), faults, slip)

    def test_ahead(self):
        for steps, most in [(9, None), (8, 0), (5, 0), (4, 1), (3, 1), (2, 3), (1, 3)]:
            self.assertEqual(self.widest(f"start 0 0 0 ; go east {steps}", "ahead", "barred", "halted"), most)
        self.assertEqual(self.widest("start 1 0 0 ; go east 2", "ahead", "barred"), 2)

    def test_back(self):
        for x, most in [(0, 1), (1, 1), (2, 2), (3, 2), (4, 3)]:
            self.assertEqual(self.widest(f"start {x} 0 0 ; go east 2", "back", "barred"), most)

    def test_side(self):
        # The slip to the side goes to both sides; the third row from the barred one has two rows on each side.
        for y, most in [(0, 0), (1, 1), (2, 1), (3, 0), (4, None)]:
            self.assertEqual(self.widest(f"start 0 {y} 0 ; go east 1", "side", "barred"), most)
        self.assertEqual(self.widest("start 4 2 0 ; go north 1", "side", "barred"), 3)

    def test_each_fault(self):
        self.assertEqual(self.widest("start 4 0 0 ; go east 2 ; stop goal", "back", "astray"), 0)
        self.assertEqual(self.widest("start 6 0 0 ; go east 2 ; stop goal", "back", "astray"), 1)
        self.assertEqual(self.widest("start 6 0 0 ; go east 2 ; stop goal", "back", "barred"), 3)
        self.assertEqual(self.widest("start 0 0 0 ; go east 1 ; see lamp ; go west 2 ; end", "ahead", "halted"), None)
        self.assertEqual(self.widest("start 1 0 0 ; go east 1 ; see lamp ; go west 2 ; end", "back", "halted"), 0)
        self.assertEqual(self.widest("start 1 0 0 ; go east 1 ; see lamp ; go west 2 ; end", "ahead", "halted"), 3)
        rows = "start 0 0 0 ; while x < 3 ; go east 1 ; see lamp ; end ; end"
        self.assertEqual(self.widest(rows, "back", "endless"), 0)
        self.assertEqual(self.widest(rows, "ahead", "endless"), 3)
        self.assertIs(self.widest("start 0 0 0 ; while x < 3 ; go east 1 ; go west 1 ; end", "side", "endless"), None)

    def test_several_faults(self):
        rows = "start 6 0 0 ; go east 2 ; stop goal"
        for faults in itertools.permutations(("astray", "barred", "halted")):
            self.assertEqual(self.widest(rows, "back", *faults), 1)
        self.assertEqual(self.widest(rows, "back", "barred", "halted"), 3)
        self.assertEqual(self.widest(rows, "back", *FAULTS), 1)
        self.assertIsNone(self.widest("start 6 0 0 ; go east 3", "side", "barred", "halted"))

    def test_a_fault_twice(self):
        rows = "start 6 0 0 ; go east 2 ; stop goal"
        self.assertEqual(self.widest(rows, "back", "astray", "astray"), 1)
        self.assertEqual(self.widest(rows, "back", "barred", "astray", "barred"), 1)
        self.assertEqual(widest(self.site, plan_of(rows), ["barred"] * 30, "back"), 3)

    def test_no_faults(self):
        for rows in ("start 0 0 0 ; go west 1", "start 0 4 0", "start 0 0 0 ; go east 8"):
            for slip in SLIPS:
                self.assertEqual(self.widest(rows, slip), 3)
                self.assertEqual(widest(self.site, plan_of(rows), [], slip), 3)

    def test_a_fault_even_with_0(self):
        for slip in SLIPS:
            self.assertIsNone(self.widest("start 0 0 0 ; go west 1", slip, "halted"))
            self.assertIsNone(self.widest("start 0 4 0 ; go east 1", slip, "barred"))
            self.assertIsNone(self.widest("start 0 0 1 ; go east 1", slip, "barred"))
            self.assertIsNone(self.widest("start 0 0 0 ; stop goal", slip, "astray"))
            self.assertEqual(self.widest("start 0 0 0 ; stop goal", slip, "halted"), 3)

    def test_the_slip_of_the_site_itself_is_replaced(self):
        plan = plan_of("start 0 0 0 ; go east 4")
        for number in range(4):
            self.assertEqual(widest(site_of(f"yard 9 1 ; slip 0 {number} 0"), plan, ["barred"], "ahead"), 1)
            self.assertEqual(widest(site_of(f"yard 9 1 ; slip {number} 1 0"), plan, ["barred"], "back"), 1)
            self.assertEqual(widest(site_of(f"yard 9 1 ; slip 0 1 {number}"), plan, ["barred"], "side"), 0)

    def test_the_other_slips_stay(self):
        plan = plan_of("start 0 0 0 ; go east 4")
        self.assertIsNone(widest(site_of("yard 9 1 ; slip 0 0 1"), plan, ["barred"], "ahead"))
        self.assertIsNone(widest(site_of("yard 9 1 ; slip 0 2 0"), plan, ["barred"], "back"))
        self.assertIsNone(widest(site_of("yard 9 1 ; slip 2 0 0"), plan, ["barred"], "side"))
        self.assertEqual(widest(site_of("yard 9 1 ; slip 1 0 0"), plan, ["barred"], "ahead"), 1)

    def test_kinds_of_results(self):
        plan = plan_of("start 0 0 0 ; go east 4")
        self.assertIs(type(self.widest("start 0 0 0 ; go east 8", "ahead", "barred")), int)
        faults = ["barred"]
        found = widest(slip="ahead", faults=faults, plan=plan, site=self.site)
        self.assertEqual((found, faults), (1, ["barred"]))
        self.assertEqual(str(self.site).split("\n")[1], "slip 0 0 0")


class TestFewestMarks(unittest.TestCase):
    def setUp(self):
        self.site = site_of(
            "yard 9 2 ; slip 0 0 0 ; room goal 4 0 8 1 ; mark sun 0 0 8 1 0 ; mark lamp 0 0 8 1 0 ; mark far 8 1 8 1 0"
        )

    def fewest(self, rows, *faults):
        return fewest_marks(self.site, plan_of(rows), faults)

    def test_none_is_needed(self):
        self.assertEqual(self.fewest("start 0 0 0 ; go east 1", "barred", "halted"), ())
        self.assertEqual(self.fewest("start 0 0 0", *FAULTS), ())
        self.assertEqual(self.fewest("start 0 0 0 ; see sun ; go east 1 ; else ; go east 2 ; end", *FAULTS), ())

    def test_without_see_none_helps(self):
        self.assertIsNone(self.fewest("start 0 0 0 ; go west 1", "halted"))
        self.assertIsNone(self.fewest("start 0 0 0 ; stop goal", "barred", "astray"))
        self.assertEqual(self.fewest("start 0 0 0 ; stop goal", "barred"), ())

    def test_one_is_needed(self):
        rows = "start 0 0 0 ; see sun ; go east 4 ; end ; stop goal"
        self.assertEqual(self.fewest(rows, "astray"), ("sun",))
        self.assertEqual(self.fewest(rows, "astray", "barred", "endless", "halted"), ("sun",))
        self.assertEqual(self.fewest(rows, "barred"), ())
        # The far landmark is there, but from where the robot looks it cannot be seen.
        self.assertIsNone(self.fewest("start 0 0 0 ; see far ; go east 4 ; end ; stop goal", "astray"))

    def test_two_are_needed(self):
        rows = "start 0 0 0 ; see sun ; see lamp ; go east 4 ; end ; end ; stop goal"
        self.assertEqual(self.fewest(rows, "astray"), ("lamp", "sun"))
        rows = "start 0 0 0 ; see sun ; go east 2 ; end ; see lamp ; go east 2 ; end ; stop goal"
        self.assertEqual(self.fewest(rows, "astray"), ("lamp", "sun"))

    def test_three_are_needed(self):
        rows = "start 8 1 0 ; see sun ; see far ; see lamp ; go west 4 ; stop goal ; end ; end ; end ; go east 1"
        self.assertEqual(self.fewest(rows, "astray", "halted"), ("far", "lamp", "sun"))

    def test_the_first_of_several(self):
        rows = "start 0 0 0 ; see sun ; go east 4 ; else ; see lamp ; go east 4 ; end ; end ; stop goal"
        self.assertEqual(self.fewest(rows, "astray"), ("lamp",))
        rows = "start 8 1 0 ; see {} ; see {} ; go west 1 ; else ; see {} ; go west 1 ; else ; go east 1 ; end ; end ; else ; go east 1 ; end"
        self.assertEqual(self.fewest(rows.format("sun", "lamp", "far"), "halted"), ("far", "sun"))
        self.assertEqual(self.fewest(rows.format("far", "lamp", "sun"), "halted"), ("far", "lamp"))
        self.assertEqual(self.fewest(rows.format("lamp", "sun", "far"), "halted"), ("far", "lamp"))

    def test_fewer_go_ahead_of_first(self):
        rows = (
            "start 8 1 0 ; see sun ; go west 1 ; else ; see far ; see lamp ; go west 1 ; else ; go east 1 ; end ; else ; "
            "go east 1 ; end ; end"
        )
        self.assertEqual(self.fewest(rows, "halted"), ("sun",))

    def test_a_landmark_that_does_harm(self):
        rows = "start 0 0 0 ; see sun ; see lamp ; go west 1 ; else ; go east 4 ; end ; end ; stop goal"
        self.assertIs(never(self.site, plan_of(rows), "halted"), False)
        self.assertEqual(self.fewest(rows, "astray", "halted"), ("sun",))
        rows = "start 0 0 0 ; see sun ; go west 1 ; end"
        self.assertIs(never(self.site, plan_of(rows), "halted"), False)
        self.assertEqual(self.fewest(rows, "halted"), ())

    def test_a_landmark_that_helps_for_one_fault_and_harms_for_another(self):
        rows = "start 0 0 0 ; see sun ; go east 4 ; go east 5 ; else ; stop goal ; end"
        self.assertEqual(self.fewest(rows, "astray"), ("sun",))
        self.assertEqual(self.fewest(rows, "halted"), ())
        self.assertIsNone(self.fewest(rows, "astray", "halted"))

    def test_endless(self):
        rows = "start 0 0 0 ; while x < 4 ; go east 1 ; go west 1 ; see sun ; go east 1 ; end ; end"
        self.assertEqual(self.fewest(rows, "endless"), ("sun",))
        rows = "start 0 0 0 ; while x < 4 ; go east 1 ; see lamp ; go west 1 ; end ; end"
        self.assertEqual(self.fewest(rows, "endless"), ())

    def test_no_faults_and_a_fault_twice(self):
        rows = "start 0 0 0 ; see sun ; go east 4 ; end ; stop goal"
        self.assertEqual(self.fewest(rows), ())
        self.assertEqual(fewest_marks(self.site, plan_of(rows), []), ())
        self.assertEqual(self.fewest(rows, "astray", "astray"), ("sun",))
        self.assertIsNone(self.fewest("start 0 0 0 ; stop goal", "astray", "astray"))

    def test_the_order_of_the_site_plays_no_part(self):
        rows = "start 0 0 0 ; see b ; see a ; see c ; stop goal ; end ; end ; go east 4 ; end ; stop goal"
        for names in itertools.permutations("abc"):
            marks = "".join(f" ; mark {name} 0 0 8 1 0" for name in names)
            site = site_of("yard 9 2 ; slip 0 0 0 ; room goal 4 0 8 1" + marks)
            self.assertEqual(fewest_marks(site, plan_of(rows), ["astray"]), ("b",))
            rows_of_all = "start 0 0 0 ; see b ; see a ; see c ; go east 4 ; end ; end ; end ; stop goal"
            self.assertEqual(fewest_marks(site, plan_of(rows_of_all), ["astray"]), ("a", "b", "c"))

    def test_by_name(self):
        faults = ["astray"]
        plan = plan_of("start 0 0 0 ; see sun ; go east 4 ; end ; stop goal")
        found = fewest_marks(faults=faults, plan=plan, site=self.site)
        self.assertEqual((found, faults, len(self.site.marks)), (("sun",), ["astray"], 3))


class TestMismatch(unittest.TestCase):
    def test_for_the_whole_site(self):
        site = site_of("yard 4 2 ; slip 0 0 0 ; room goal 0 0 1 1 ; mark lamp 0 0 1 1 0")
        for rows, name in [
            ("start 4 0 0", "start"), ("start 0 -1 0 ; stop none", "start"), ("start 0 0 0 ; stop none", "none"),
            ("start 0 0 0 ; see sun ; end ; stop none", "sun"), ("start 0 0 0 ; see goal ; end", "goal"),
            ("start 0 0 0 ; see lamp ; else ; see sun ; end ; end", "sun"), ("start 0 0 0 ; stop lamp", "lamp"),
        ]:
            for faults in ((), ("barred",), FAULTS):
                calls = [lambda: fewest_marks(site, plan_of(rows), faults)]
                calls += [lambda word=word: widest(site, plan_of(rows), faults, word) for word in SLIPS]
                for call in calls:
                    with self.assertRaises(Mismatch) as caught:
                        call()
                    self.assertEqual(caught.exception.name, name)


class TestAgainstTheSearch(unittest.TestCase):
    def test_widest(self):
        draw = random.Random(11)
        seen = {most: 0 for most in (None, 0, 1, 2, 3)}
        for _ in range(250):
            site = drawn_site(draw, draw.choice([4, 5, 7]))
            plan = drawn_plan(draw, site, 2, 7)
            for place, slip in enumerate(SLIPS):
                faults = draw.choices(FAULTS, k=draw.choice([0, 1, 1, 1, 2, 3]))
                expected = self.widest(site, plan, faults, place)
                with self.subTest(site=str(site), plan=str(plan), faults=faults, slip=slip):
                    self.assertEqual(widest(site, plan, faults, slip), expected)
                seen[expected] += len(faults) > 0
        self.assertGreater(min(seen.values()), 5, seen)

    def widest(self, site, plan, faults, place):
        bears = []
        for number in range(4):
            slips = list(site.slips)
            slips[place] = number
            every = Everything(Site(site.size, tuple(slips), site.rooms, site.marks), plan)
            bears.append(not any(every.comes(fault) for fault in faults))
        # More slip never makes a fault impossible.
        self.assertEqual(bears, sorted(bears, reverse=True))
        return sum(bears) - 1 if any(bears) else None

    def test_fewest_marks(self):
        draw = random.Random(12)
        seen = {many: 0 for many in (None, 0, 1, 2)}
        harm = 0
        for k in range(1500):
            site = drawn_site(draw, names=draw.sample("lmn", 3))
            plan = drawn_plan(draw, site, 3, 9)
            if k % 3:
                site = self.site_with_great_marks(draw)
                plan = Plan((1, 1), draw.choice([0, 0, 1]), self.looks(draw, 3))
            faults = draw.choices(FAULTS, k=draw.choice([0, 1, 1, 2]))
            good = self.good(site, plan, faults)
            expected = min(good, key=lambda names: (len(names), names)) if good else None
            with self.subTest(site=str(site), plan=str(plan), faults=faults):
                self.assertEqual(fewest_marks(site, plan, faults), expected)
            seen[None if expected is None else len(expected)] += 1
            harm += bool(good) and ("l", "m", "n") not in good
        self.assertGreater(min(harm, seen[None], seen[0], seen[1]), 20, (harm, seen))
        self.assertGreater(seen[2], 5, seen)

    def site_with_great_marks(self, draw):
        marks = [Mark(name, (draw.choice([0, 0, 0, 2]), 0), (4, 2), draw.choice([0, 0, 1])) for name in draw.sample("lmn", 3)]
        return Site((5, 3), draw.choice([(0, 0, 0), (0, 1, 0)]), [Room("a", (3, 0), (4, 2))], marks)

    def looks(self, draw, depth):
        """Rows that look for landmarks, and more of them behind some sights and misses."""
        rows = [Go(draw.choice(WAYS), draw.choice([1, 2]))] if draw.random() < 0.4 or depth == 0 else []
        if depth > 0:
            rows.append(See(draw.choice("lmn"), self.looks(draw, depth - 1), self.looks(draw, depth - 2) if depth > 1 else []))
        return rows + [Stop("a")] * (draw.random() < 0.3)

    def good(self, site, plan, faults):
        """All tuples of names of landmarks with which alone none of the faults comes."""
        found = []
        for many in range(4):
            for names in itertools.combinations("lmn", many):
                every = Everything(site, plan, [name for name in "lmn" if name not in names])
                if not any(every.comes(fault) for fault in faults):
                    found.append(names)
        return found


if __name__ == "__main__":
    unittest.main()
