"""Plans that are alike, point [22]."""

import random
import unittest

from slipsights.alike import alike, needless, parting
from slipsights.cells import ends
from slipsights.errors import InvalidRow, Mismatch
from slipsights.plans import Plan
from slipsights.sites import Site
from tests.draws import drawn_plan, drawn_site
from tests.search import Everything


def site_of(text):
    return Site.read(text.replace(" ; ", "\n"))


def plan_of(text):
    return Plan.read(text.replace(" ; ", "\n"))


class AlikeCase(unittest.TestCase):
    def setUp(self):
        self.site = site_of(
            "yard 6 3 ; slip 0 0 0 ; room goal 3 0 5 2 ; room a 0 0 5 2 ; barred pit 2 1 2 1 ; mark lamp 0 0 5 0 0 ; "
            "mark sun 0 0 5 2 1"
        )

    def parts(self, p, q, expected):
        """Both plans part like this, whichever comes first; None if they are alike."""
        p, q = plan_of(p), plan_of(q)
        for one, other in ((p, q), (q, p)):
            self.assertEqual(parting(self.site, one, other), expected)
            self.assertIs(alike(self.site, one, other), expected is None)


class TestParting(AlikeCase):
    def test_equal_plans(self):
        for rows in ("start 0 0 0", "start 1 1 1 ; go east 1", "start 0 0 0 ; while x < 1 ; go east 1 ; go west 1 ; end"):
            self.parts(rows, rows, None)
            plan = plan_of(rows)
            self.assertIs(alike(self.site, plan, plan), True)
            self.assertIsNone(parting(self.site, plan, plan))

    def test_alike_but_not_equal(self):
        self.parts("start 0 0 0 ; go east 3 ; go north 2", "start 0 0 0 ; go north 2 ; go east 3", None)
        self.parts("start 0 0 0 ; go east 2", "start 2 0 0", None)
        self.parts("start 0 0 0 ; while x < 3 ; go east 1 ; end ; stop a", "start 0 0 0 ; go east 3 ; stop a", None)
        self.parts("start 0 0 0", "start 0 0 0 ; see sun ; end", None)
        self.parts("start 0 0 0 ; stop a", "start 0 0 0 ; stop a ; go west 9 ; stop goal", None)

    def test_beliefs_play_no_part(self):
        # The places at which the runs end are the same, wherever the robots take themselves to be.
        self.parts("start 1 1 0 ; see sun ; end", "start 1 1 0", None)
        self.parts("start 4 1 0 ; see sun ; if y < 1 ; stop a ; else ; stop a ; end ; end", "start 4 1 0 ; stop a", None)

    def test_words_in_ascending_order(self):
        self.parts("start 3 0 0 ; stop goal", "start 3 0 0 ; stop a", ("a", (3, 0)))
        self.parts("start 3 0 0 ; stop goal", "start 3 0 0", ("end", (3, 0)))
        self.parts("start 3 0 0 ; stop goal", "start 3 0 0 ; go south 1", ("goal", (3, 0)))
        self.parts("start 3 0 0", "start 3 0 0 ; go south 1", ("end", (3, 0)))
        self.parts("start 1 1 0 ; go east 1", "start 1 1 0 ; go east 4", None)
        self.parts("start 1 1 0 ; go east 1", "start 1 1 0 ; stop a", ("a", (1, 1)))
        self.parts("start 1 1 0 ; go east 1", "start 1 1 0", ("barred", (2, 1)))
        self.parts("start 0 0 0 ; go south 1", "start 0 0 0 ; stop goal", ("goal", (0, 0)))

    def test_the_first_cell(self):
        self.parts("start 3 1 0", "start 4 1 0", ("end", (3, 1)))
        self.parts("start 4 0 0", "start 3 2 0", ("end", (3, 2)))
        self.parts("start 4 2 0", "start 4 0 0", ("end", (4, 0)))
        self.parts("start 4 1 1", "start 4 1 0", ("end", (3, 0)))
        self.parts("start 4 1 1", "start 4 1 1 ; go north 1", ("barred", (3, 3)))
        # At (3, 1) both can end, so that is not where they part.
        self.site = site_of("yard 6 3 ; slip 0 1 0")
        self.parts("start 2 1 0 ; go east 1", "start 3 1 0", ("end", (4, 1)))
        self.parts("start 2 1 0 ; go east 1", "start 1 1 0 ; go east 2", ("end", (5, 1)))

    def test_a_word_that_only_one_has(self):
        self.parts("start 0 0 1", "start 0 0 0", ("barred", (-1, -1)))
        self.parts("start 1 1 1", "start 1 1 1 ; see lamp ; stop a ; end", ("a", (0, 0)))

    def test_runs_that_never_end_do_not_count(self):
        round_and_round = "while x < 9 ; go east 1 ; go west 1 ; end"
        self.parts(f"start 0 0 0 ; {round_and_round}", f"start 4 2 0 ; {round_and_round}", None)
        self.parts(f"start 0 0 0 ; {round_and_round}", f"start 2 1 0 ; {round_and_round}", ("barred", (2, 1)))
        self.parts(f"start 0 0 0 ; {round_and_round} ; stop a", f"start 0 0 0 ; {round_and_round} ; stop goal", None)
        self.parts(f"start 0 0 0 ; {round_and_round}", "start 0 0 0", ("end", (0, 0)))

    def test_blurs_of_the_starts(self):
        # To the north all is barred ahead of the step already, but the runs from the last row do not come back.
        self.parts("start 3 1 9", "start 3 1 9 ; go north 1 ; go south 1", ("end", (0, 2)))
        self.parts("start 3 1 1", "start 3 1 1 ; go north 1 ; go south 1", ("barred", (2, 3)))
        self.parts("start 3 1 99", "start 3 1 99", None)
        self.parts("start 3 1 99", "start 3 1 0", ("barred", (-96, -98)))

    def test_ends_tell_the_same(self):
        p, q = plan_of("start 1 1 1 ; go east 2 ; stop a"), plan_of("start 1 1 1 ; go east 2 ; see lamp ; end ; stop a")
        self.assertIs(alike(self.site, p, q), True)
        for word in ("a", "barred", "end", "halted", "goal"):
            self.assertEqual(ends(self.site, p, word), ends(self.site, q, word))

    def test_by_name(self):
        p, q = plan_of("start 0 0 0"), plan_of("start 1 0 0")
        self.assertEqual(parting(q=q, p=p, site=self.site), ("end", (0, 0)))
        self.assertIs(alike(q=q, p=p, site=self.site), False)


class TestNeedless(AlikeCase):
    def needless(self, rows, *numbers):
        self.assertEqual(needless(self.site, plan_of(rows)), numbers)

    def test_plan_without_rows(self):
        self.needless("start 0 0 0")
        self.assertEqual(needless(plan=plan_of("start 0 0 1"), site=self.site), ())

    def test_rows_behind_a_stop(self):
        self.needless("start 0 0 0 ; stop a ; go west 9 ; stop goal", 1, 2)

    def test_needed_rows(self):
        self.needless("start 0 0 0 ; go east 3 ; stop goal")
        self.needless("start 0 0 0 ; go east 3")

    def test_each_alone(self):
        # Without one of the two the runs end as before, but not without both.
        self.needless("start 0 0 0 ; stop a ; stop a", 0, 1)
        self.needless("start 3 0 0 ; go east 1 ; go west 1")
        self.needless("start 3 0 0 ; if x < 9 ; go south 1 ; end ; go south 1", 0, 1, 2)

    def test_blocks_go_with_all_in_them(self):
        self.needless("start 0 0 0 ; if x < 9 ; go east 2 ; go west 2 ; end ; stop a", 0)
        self.needless("start 0 0 0 ; if x >= 9 ; go east 2 ; go west 2 ; else ; see sun ; end ; end ; stop a", 0, 1, 2, 3)
        self.needless("start 0 0 0 ; see lamp ; else ; go east 1 ; end", 0, 1)
        self.needless("start 3 1 0 ; see lamp ; else ; go east 1 ; end")

    def test_rows_that_cannot_be_left_out(self):
        # A loop that is never done is needless; the first step in it is none, as what is next is no step.
        rows = "start 0 0 0 ; while x >= 9 ; go east 1 ; see sun ; go west 1 ; end ; end"
        with self.assertRaises(InvalidRow):
            plan_of(rows).without(1)
        self.needless(rows, 0, 2, 3)
        self.needless("start 0 0 0 ; while x >= 9 ; go east 1 ; end", 0)
        self.needless("start 0 0 0 ; while x >= 9 ; go east 1 ; go west 1 ; end", 0, 1, 2)
        rows = "start 0 0 0 ; if x < 9 ; else ; while x >= 9 ; go east 1 ; while x < 4 ; go east 1 ; end ; end ; end"
        self.needless(rows, 0, 1, 3)

    def test_runs_that_never_end(self):
        self.needless("start 0 0 0 ; while x < 9 ; go east 1 ; go west 1 ; end ; stop a", 3)


class TestMismatch(AlikeCase):
    def test_for_p_then_for_q(self):
        good = "start 0 0 0 ; see sun ; end ; stop a"
        wrong = [
            ("start 6 0 0", "start"), ("start 0 3 0 ; stop none", "start"), ("start 0 0 0 ; stop none", "none"),
            ("start 0 0 0 ; see goal ; end", "goal"), ("start 0 0 0 ; stop lamp ; stop none", "lamp"),
        ]
        for rows, name in wrong:
            self.refuses(rows, good, name)
            self.refuses(good, rows, name)
            self.refuses(rows, rows, name)
            for others, _ in wrong:
                self.refuses(rows, others, name)
            with self.assertRaises(Mismatch) as caught:
                needless(self.site, plan_of(rows))
            self.assertEqual(caught.exception.name, name)

    def refuses(self, p, q, name):
        for call in (alike, parting):
            with self.assertRaises(Mismatch) as caught:
                call(self.site, plan_of(p), plan_of(q))
            self.assertEqual(caught.exception.name, name)


class TestAgainstTheSearch(AlikeCase):
    def ends(self, site, plan):
        return {(word, cell) for word, cells in Everything(site, plan).ends.items() for cell in cells}

    def compare(self, site, p, q):
        """Return whether the plans are alike, as they should be told to be."""
        apart = self.ends(site, p) ^ self.ends(site, q)
        with self.subTest(site=str(site), p=str(p), q=str(q)):
            self.assertIs(alike(site, p, q), not apart)
            self.assertEqual(parting(site, p, q), min(apart) if apart else None)
        return not apart

    def test_drawn_plans(self):
        draw = random.Random(21)
        same = parted = 0
        for _ in range(300):
            site = drawn_site(draw)
            p = drawn_plan(draw, site, 1, 7)
            q = drawn_plan(draw, site, 0, 7)
            if draw.random() < 0.8:
                q = Plan(p.start, p.blur, draw.sample(p.rows, draw.randint(0, len(p.rows))))
            is_alike = self.compare(site, p, q)
            same, parted = same + (is_alike and p != q), parted + (not is_alike)
        self.assertGreater(min(same, parted), 30)

    def test_drawn_needless_rows(self):
        draw = random.Random(22)
        seen = {"needless": 0, "needed": 0, "must": 0}
        for _ in range(300):
            site = drawn_site(draw)
            plan = drawn_plan(draw, site, 0, 8)
            expected = []
            for at in range(len(plan)):
                try:
                    shorter = plan.without(at)
                except InvalidRow:
                    seen["must"] += 1
                    continue
                if self.ends(site, shorter) == self.ends(site, plan):
                    expected.append(at)
            with self.subTest(site=str(site), plan=str(plan)):
                self.assertEqual(needless(site, plan), tuple(expected))
            seen["needless"] += len(expected)
            seen["needed"] += len(plan) - len(expected)
        self.assertGreater(min(seen.values()), 30, seen)


if __name__ == "__main__":
    unittest.main()
