"""Runs, points [10], [11] and [12]."""

import random
import unittest

from slipsights.errors import InvalidRun, Mismatch
from slipsights.plans import Go, If, Plan, See, Stop, While
from slipsights.runs import play
from slipsights.sites import Mark, Room, Site
from tests import samples
from tests.model import Model

STILL = (0, 0)


def site_of(text):
    return Site.read(text.replace(" ; ", "\n"))


def plan_of(text):
    return Plan.read(text.replace(" ; ", "\n"))


class RunCase(unittest.TestCase):
    def wrong(self, at, site, plan, pairs):
        with self.assertRaises(InvalidRun, msg=pairs) as caught:
            play(site, plan, pairs)
        self.assertEqual(caught.exception.at, at, pairs)

    def lacks(self, name, site, plan, pairs=()):
        with self.assertRaises(Mismatch) as caught:
            play(site, plan, pairs)
        self.assertEqual(caught.exception.name, name)

    def ends(self, played, word, belief, place, *faults):
        self.assertEqual((played.ended, played.row, played.done), (word, None, 0))
        self.assertEqual((played.belief, played.place, played.faults), (belief, place, faults))

    def waits(self, played, row, done, belief, place):
        self.assertEqual((played.ended, played.row, played.done), (None, row, done))
        self.assertEqual((played.belief, played.place, played.faults), (belief, place, ()))

    def allowed(self, site, plan, pairs, reach=4):
        """The pairs that may come next, found by trying; each other one must be refused."""
        found = set()
        for x in range(-reach, reach + 1):
            for y in range(-reach, reach + 1):
                try:
                    play(site, plan, list(pairs) + [(x, y)])
                    found.add((x, y))
                except InvalidRun as error:
                    self.assertEqual(error.at, len(pairs))
        return found


class TestStart(RunCase):
    def setUp(self):
        self.site = site_of("yard 9 9 ; slip 0 0 0 ; barred pit 3 3 3 3 ; room hall 4 4 4 4")

    def test_without_pairs(self):
        for plan in (plan_of("start 4 4 1"), plan_of("start 3 3 0 ; stop hall"), plan_of("start 8 0 0 ; go east 1")):
            for pairs in ([], ()):
                played = play(self.site, plan, pairs)
                self.waits(played, None, 0, plan.start, None)
                self.assertEqual(played.trail, ())

    def test_errors_at_the_start(self):
        for blur in range(4):
            expected = {(x, y) for x in range(-blur, blur + 1) for y in range(-blur, blur + 1)}
            self.assertEqual(self.allowed(self.site, plan_of(f"start 4 4 {blur}"), []), expected)

    def test_place_is_belief_and_error(self):
        played = play(self.site, plan_of("start 4 4 2 ; go west 2"), [(1, -2)])
        self.waits(played, 0, 0, (4, 4), (5, 2))
        self.assertEqual(played.trail, (((4, 4), (5, 2)),))

    def test_barred_at_the_start(self):
        plan = plan_of("start 4 4 1 ; stop hall")
        self.ends(play(self.site, plan, [(-1, -1)]), "barred", (4, 4), (3, 3), "barred")
        self.ends(play(self.site, plan, [(0, 0)]), "hall", (4, 4), (4, 4))
        plan = plan_of("start 0 0 1")
        self.ends(play(self.site, plan, [(-1, 0)]), "barred", (0, 0), (-1, 0), "barred")
        self.ends(play(self.site, plan, [(0, -1)]), "barred", (0, 0), (0, -1), "barred")
        self.ends(play(self.site, plan, [(1, 1)]), "end", (0, 0), (1, 1))

    def test_barred_comes_ahead_of_the_rows(self):
        played = play(self.site, plan_of("start 8 4 1 ; go east 1"), [(1, 0)])
        self.ends(played, "barred", (8, 4), (9, 4), "barred")


class TestSteps(RunCase):
    def setUp(self):
        self.site = site_of("yard 9 9 ; slip 1 2 3")

    def test_slips_of_each_way(self):
        along, across = range(-1, 3), range(-3, 4)
        expected = {
            "east": {(a, c) for a in along for c in across},
            "west": {(-a, c) for a in along for c in across},
            "north": {(c, a) for a in along for c in across},
            "south": {(c, -a) for a in along for c in across},
        }
        for way, pairs in expected.items():
            self.assertEqual(self.allowed(self.site, plan_of(f"start 4 4 0 ; go {way} 1"), [STILL]), pairs, way)

    def test_belief_and_place_move(self):
        for way, belief in {"east": (5, 4), "west": (3, 4), "north": (4, 5), "south": (4, 3)}.items():
            plan = plan_of(f"start 4 4 0 ; go {way} 1")
            self.ends(play(self.site, plan, [STILL, STILL]), "end", belief, belief)
        played = play(self.site, plan_of("start 4 4 1 ; go north 1"), [(1, -1), (-3, 2)])
        self.ends(played, "end", (4, 5), (2, 6))
        self.assertEqual(played.trail, (((4, 4), (5, 3)), ((4, 5), (2, 6))))

    def test_slip_back_to_the_west(self):
        played = play(self.site, plan_of("start 4 4 0 ; go west 1"), [STILL, (1, 0)])
        self.ends(played, "end", (3, 4), (4, 4))

    def test_waits_in_the_middle(self):
        plan = plan_of("start 1 1 0 ; go east 3 ; go north 2")
        for many, (row, done, belief) in enumerate([(0, 0, (1, 1)), (0, 1, (2, 1)), (0, 2, (3, 1)), (1, 0, (4, 1)), (1, 1, (4, 2))]):
            self.waits(play(self.site, plan, [STILL] * (many + 1)), row, done, belief, belief)
        self.ends(play(self.site, plan, [STILL] * 6), "end", (4, 3), (4, 3))

    def test_halted(self):
        for way, edge in {"east": (8, 4), "west": (0, 4), "north": (4, 8), "south": (4, 0)}.items():
            x, y = edge
            played = play(self.site, plan_of(f"start {x} {y} 0 ; go {way} 1"), [STILL])
            self.ends(played, "halted", edge, edge, "halted")
            self.wrong(1, self.site, plan_of(f"start {x} {y} 0 ; go {way} 1"), [STILL, STILL])

    def test_halted_in_the_middle(self):
        played = play(self.site, plan_of("start 6 0 0 ; go east 4"), [STILL, (-1, 0), (0, 1)])
        self.ends(played, "halted", (8, 0), (7, 1), "halted")

    def test_halted_by_the_belief_alone(self):
        plan = plan_of("start 7 4 1 ; go east 1")
        self.ends(play(self.site, plan, [(-1, 0), (-1, 0)]), "end", (8, 4), (6, 4))
        self.ends(play(self.site, plan, [(1, 0), (-1, 0)]), "end", (8, 4), (8, 4))
        self.ends(play(self.site, plan, [(1, 0), (0, 0)]), "barred", (8, 4), (9, 4), "barred")

    def test_barred_behind_a_step(self):
        site = site_of("yard 9 9 ; slip 1 2 0 ; barred pit 4 0 4 0 ; room pool 5 0 5 0")
        plan = plan_of("start 2 0 0 ; go east 3")
        self.waits(play(site, plan, [STILL, STILL]), 0, 1, (3, 0), (3, 0))
        self.ends(play(site, plan, [STILL, (1, 0)]), "barred", (3, 0), (4, 0), "barred")
        self.waits(play(site, plan, [STILL, (2, 0)]), 0, 1, (3, 0), (5, 0))
        self.ends(play(site, plan, [STILL, STILL, (0, 0)]), "barred", (4, 0), (4, 0), "barred")

    def test_barred_comes_ahead_of_halted_and_stop(self):
        site = site_of("yard 3 1 ; slip 0 1 0 ; room hall 0 0 9 0")
        played = play(site, plan_of("start 1 0 0 ; go east 2"), [STILL, (1, 0)])
        self.ends(played, "barred", (2, 0), (3, 0), "barred")
        played = play(site, plan_of("start 1 0 0 ; go east 1 ; stop hall"), [STILL, (1, 0)])
        self.ends(played, "barred", (2, 0), (3, 0), "barred")

    def test_back_slips_may_stand_still_or_return(self):
        site = site_of("yard 9 1 ; slip 2 0 0")
        plan = plan_of("start 4 0 0 ; go east 1")
        self.ends(play(site, plan, [STILL, (-1, 0)]), "end", (5, 0), (4, 0))
        self.ends(play(site, plan, [STILL, (-2, 0)]), "end", (5, 0), (3, 0))
        self.wrong(1, site, plan, [STILL, (1, 0)])
        self.wrong(1, site, plan, [STILL, (-3, 0)])
        self.wrong(1, site, plan, [STILL, (0, 1)])


class TestSights(RunCase):
    def setUp(self):
        self.site = site_of("yard 9 9 ; slip 0 0 0 ; room a 0 0 8 8 ; room b 0 0 8 8 ; mark lamp 3 2 5 4 1 ; mark far 20 20 21 21 0")
        self.plan = plan_of("start 4 4 3 ; see lamp ; go east 1 ; else ; go west 1 ; end ; stop a")

    def test_waits_at_a_see(self):
        self.waits(play(self.site, self.plan, [(1, -2)]), 0, 0, (4, 4), (5, 2))

    def test_seen_at_each_edge_and_missed_about_them(self):
        for x in range(1, 8):
            for y in range(1, 8):
                played = play(self.site, self.plan, [(x - 4, y - 4)])
                seen = 3 <= x <= 5 and 2 <= y <= 4
                self.waits(played, 0 if seen else 2, 0, (4, 4), (x, y))

    def test_belief_is_set_anew(self):
        played = play(self.site, self.plan, [(1, -2), (1, -1)])
        self.waits(played, 1, 0, (4, 3), (5, 2))
        self.assertEqual(played.trail, (((4, 4), (5, 2)), ((4, 3), (5, 2))))
        self.ends(play(self.site, self.plan, [(1, -2), (1, -1), STILL]), "a", (5, 3), (6, 2))

    def test_missed_needs_no_pair(self):
        played = play(self.site, self.plan, [(-3, 0)])
        self.waits(played, 2, 0, (4, 4), (1, 4))
        self.assertEqual(len(played.trail), 1)
        self.ends(play(self.site, self.plan, [(-3, 0), STILL]), "a", (3, 4), (0, 4))

    def test_errors_of_a_sight(self):
        near = (-1, 0, 1)
        self.assertEqual(self.allowed(self.site, self.plan, [STILL]), {(x, y) for x in near for y in near})
        for blur in range(4):
            site = site_of(f"yard 9 9 ; slip 0 0 0 ; mark lamp 0 0 8 8 {blur}")
            near = range(-blur, blur + 1)
            self.assertEqual(self.allowed(site, plan_of("start 4 4 0 ; see lamp ; end"), [STILL]), {(x, y) for x in near for y in near})

    def test_belief_must_be_a_cell_of_the_yard(self):
        site = site_of("yard 5 4 ; slip 0 0 0 ; barred pit 1 0 1 0 ; mark lamp 0 0 4 3 2")
        for x, y in [(0, 0), (4, 0), (0, 3), (4, 3), (0, 1), (3, 3), (2, 0)]:
            expected = {(a, b) for a in range(-2, 3) for b in range(-2, 3) if 0 <= x - a <= 4 and 0 <= y - b <= 3}
            plan = plan_of(f"start {x} {y} 0 ; see lamp ; end")
            self.assertEqual(self.allowed(site, plan, [STILL]), expected)
        played = play(site, plan_of("start 0 0 0 ; see lamp ; end"), [STILL, (-1, 0)])
        self.ends(played, "end", (1, 0), (0, 0))

    def test_blocks_without_rows(self):
        plan = plan_of("start 4 4 3 ; see lamp ; end ; stop a")
        self.ends(play(self.site, plan, [STILL, (1, 0)]), "a", (3, 4), (4, 4))
        self.ends(play(self.site, plan, [(3, 3)]), "a", (4, 4), (7, 7))
        plan = plan_of("start 4 4 3 ; see lamp ; else ; stop b ; end ; stop a")
        self.ends(play(self.site, plan, [STILL, STILL]), "a", (4, 4), (4, 4))
        self.ends(play(self.site, plan, [(3, 3)]), "b", (4, 4), (7, 7))
        plan = plan_of("start 4 4 3 ; see lamp ; stop b ; end ; stop a")
        self.ends(play(self.site, plan, [STILL, STILL]), "b", (4, 4), (4, 4))
        self.ends(play(self.site, plan, [(3, 3)]), "a", (4, 4), (7, 7))

    def test_several_sights_in_a_row(self):
        plan = plan_of("start 4 4 0 ; see lamp ; see far ; stop b ; else ; see lamp ; stop a ; end ; end ; end")
        self.waits(play(self.site, plan, [STILL]), 0, 0, (4, 4), (4, 4))
        self.waits(play(self.site, plan, [STILL, (1, 1)]), 3, 0, (3, 3), (4, 4))
        self.ends(play(self.site, plan, [STILL, (1, 1), (-1, 0)]), "a", (5, 4), (4, 4))

    def test_a_mark_outside_of_the_yard_is_never_seen(self):
        plan = plan_of("start 4 4 0 ; see far ; stop a ; else ; stop b ; end")
        self.ends(play(self.site, plan, [STILL]), "b", (4, 4), (4, 4))


class TestWaysThroughThePlan(RunCase):
    def setUp(self):
        self.site = site_of("yard 9 9 ; slip 1 1 1 ; room a 0 0 8 8 ; room b 0 0 8 8 ; room c 5 5 6 6")

    def word(self, rows, x, y):
        return play(self.site, plan_of(f"start {x} {y} 0 ; {rows}"), [STILL]).ended

    def test_tests(self):
        for test, cells in {
            "x < 3": {(x, y) for x in range(9) for y in range(9) if x < 3},
            "x >= 3": {(x, y) for x in range(9) for y in range(9) if x >= 3},
            "y < 7": {(x, y) for x in range(9) for y in range(9) if y < 7},
            "y >= -1": {(x, y) for x in range(9) for y in range(9)},
            "x < -2": set(), "y >= 99": set(),
        }.items():
            for x in range(9):
                for y in range(9):
                    expected = "a" if (x, y) in cells else "b"
                    self.assertEqual(self.word(f"if {test} ; stop a ; else ; stop b ; end", x, y), expected)

    def test_tests_ask_the_belief(self):
        plan = plan_of("start 4 4 1 ; if x < 4 ; stop a ; else ; stop b ; end")
        self.assertEqual(play(self.site, plan, [(-1, 0)]).ended, "b")
        plan = plan_of("start 4 4 1 ; if x < 5 ; stop a ; else ; stop b ; end")
        self.assertEqual(play(self.site, plan, [(1, 0)]).ended, "a")

    def test_blocks_without_rows(self):
        self.assertEqual(self.word("if x < 5 ; end ; stop a", 1, 1), "a")
        self.assertEqual(self.word("if x < 5 ; end ; stop a", 6, 1), "a")
        self.assertEqual(self.word("if x < 5 ; stop b ; end ; stop a", 6, 1), "a")
        self.assertEqual(self.word("if x < 5 ; else ; stop b ; end ; stop a", 1, 1), "a")
        self.assertEqual(self.word("if x < 5 ; else ; stop b ; end ; stop a", 6, 1), "b")

    def test_behind_a_block(self):
        rows = "if x < 5 ; if y < 5 ; if x < 3 ; end ; end ; else ; stop b ; end ; stop a"
        self.assertEqual([self.word(rows, x, y) for x, y in [(1, 1), (4, 1), (1, 6), (6, 1)]], ["a", "a", "a", "b"])

    def test_behind_the_last_row(self):
        self.assertEqual(self.word("if x < 5 ; end", 1, 1), "end")
        self.ends(play(self.site, plan_of("start 1 1 0"), [STILL]), "end", (1, 1), (1, 1))
        self.ends(play(self.site, plan_of("start 7 1 0 ; if x < 5 ; else ; go east 1 ; end"), [STILL] * 2), "end", (8, 1), (8, 1))

    def test_rows_behind_a_stop(self):
        self.assertEqual(self.word("stop a ; stop b ; go east 9", 1, 1), "a")

    def test_while(self):
        plan = plan_of("start 1 1 0 ; while x < 4 ; go east 1 ; go north 2 ; end ; stop a")
        beliefs = [(1, 1), (2, 1), (2, 2), (2, 3), (3, 3), (3, 4), (3, 5), (4, 5), (4, 6)]
        where = [(1, 0), (2, 0), (2, 1)] * 3
        for many, (belief, (row, done)) in enumerate(zip(beliefs, where)):
            self.waits(play(self.site, plan, [STILL] * (many + 1)), row, done, belief, belief)
        self.ends(play(self.site, plan, [STILL] * 10), "a", (4, 7), (4, 7))

    def test_while_that_is_passed_by(self):
        self.assertEqual(self.word("while x < 4 ; go east 1 ; end ; stop a", 4, 0), "a")
        self.assertEqual(self.word("while x < 4 ; go east 1 ; end", 4, 0), "end")

    def test_while_in_while(self):
        plan = plan_of("start 0 0 0 ; while x < 2 ; go east 1 ; while y < 1 ; go north 1 ; end ; end ; stop b")
        self.waits(play(self.site, plan, [STILL] * 2), 3, 0, (1, 0), (1, 0))
        self.waits(play(self.site, plan, [STILL] * 3), 1, 0, (1, 1), (1, 1))
        self.ends(play(self.site, plan, [STILL] * 4), "b", (2, 1), (2, 1))

    def test_while_with_a_block_at_its_end(self):
        plan = plan_of("start 0 0 0 ; while x < 2 ; go east 1 ; if x < 2 ; go north 1 ; else ; go south 1 ; end ; end ; go north 9")
        self.waits(play(self.site, plan, [STILL] * 2), 3, 0, (1, 0), (1, 0))
        self.waits(play(self.site, plan, [STILL] * 3), 1, 0, (1, 1), (1, 1))
        self.waits(play(self.site, plan, [STILL] * 4), 4, 0, (2, 1), (2, 1))
        self.waits(play(self.site, plan, [STILL] * 5), 5, 0, (2, 0), (2, 0))

    def test_long_run(self):
        plan = plan_of("start 4 4 0 ; while x < 9 ; go east 1 ; go west 1 ; end")
        self.waits(play(self.site, plan, [STILL] * 200), 2, 0, (5, 4), (5, 4))
        self.waits(play(self.site, plan, [STILL] * 201), 1, 0, (4, 4), (4, 4))

    def test_stop_and_astray(self):
        plan = plan_of("start 5 6 1 ; stop c")
        self.ends(play(self.site, plan, [STILL]), "c", (5, 6), (5, 6))
        self.ends(play(self.site, plan, [(1, 0)]), "c", (5, 6), (6, 6))
        self.ends(play(self.site, plan, [(-1, 0)]), "c", (5, 6), (4, 6), "astray")
        self.ends(play(self.site, plan, [(0, 1)]), "c", (5, 6), (5, 7), "astray")
        plan = plan_of("start 4 4 1 ; stop c")
        self.ends(play(self.site, plan, [STILL]), "c", (4, 4), (4, 4), "astray")
        self.ends(play(self.site, plan, [(1, 1)]), "c", (4, 4), (5, 5))

    def test_stop_in_a_barred_room_is_astray(self):
        site = site_of("yard 9 9 ; slip 0 0 0 ; barred pit 5 5 6 6")
        self.ends(play(site, plan_of("start 4 4 1 ; stop pit"), [STILL]), "pit", (4, 4), (4, 4), "astray")
        self.ends(play(site, plan_of("start 4 4 1 ; stop pit"), [(1, 1)]), "barred", (4, 4), (5, 5), "barred")


class TestRefused(RunCase):
    def setUp(self):
        self.site = site_of("yard 8 8 ; slip 1 0 0 ; room hall 0 0 1 1 ; mark lamp 0 0 7 7 1")
        self.plan = plan_of("start 4 4 1 ; go east 2 ; see lamp ; stop hall ; end")

    def test_pairs_that_are_no_sequence(self):
        for pairs in samples.NO_SEQUENCES + samples.objects():
            self.wrong(0, self.site, self.plan, pairs)

    def test_lists_and_tuples(self):
        pairs = [STILL, (-1, 0)]
        self.assertEqual(play(self.site, self.plan, pairs).trail, play(self.site, self.plan, tuple(pairs)).trail)
        self.assertEqual(pairs, [STILL, (-1, 0)])

    def test_things_that_are_no_pairs(self):
        for thing in samples.NO_CELLS + samples.objects() + [samples.deep(0)]:
            self.wrong(0, self.site, self.plan, [thing])
            self.wrong(1, self.site, self.plan, [STILL, thing])
            self.wrong(3, self.site, self.plan, [STILL] * 3 + [thing, STILL])
            self.wrong(4, self.site, self.plan, [STILL] * 4 + [thing])
        self.wrong(0, self.site, self.plan, (0, 0))

    def test_pairs_that_are_not_allowed(self):
        for thing in [(2, 0), (0, 2), (-2, 0), (0, -2), (10 ** 20, 0)]:
            self.wrong(0, self.site, self.plan, [thing, STILL])
        for thing in [(1, 0), (-2, 0), (0, 1), (0, -1)]:
            self.wrong(1, self.site, self.plan, [STILL, thing, STILL])
            self.wrong(2, self.site, self.plan, [STILL, STILL, thing])
        for thing in [(2, 0), (0, -2)]:
            self.wrong(3, self.site, self.plan, [STILL] * 3 + [thing])

    def test_pairs_that_are_not_needed(self):
        self.wrong(4, self.site, self.plan, [STILL] * 5)
        self.wrong(4, self.site, self.plan, [STILL] * 9)
        self.wrong(1, self.site, plan_of("start 0 0 0"), [STILL, STILL])
        self.wrong(1, self.site, plan_of("start 0 0 1 ; go east 1"), [(-1, 0), STILL])

    def test_first_wrong_thing(self):
        self.wrong(1, self.site, self.plan, [STILL, (5, 5), None])
        self.wrong(1, self.site, self.plan, [STILL, None, (5, 5)])

    def test_start_outside_of_the_yard(self):
        for x, y in [(8, 0), (0, 8), (-1, 0), (0, -1), (99, 99)]:
            self.lacks("start", self.site, plan_of(f"start {x} {y} 0 ; stop none"))
        for x, y in [(0, 0), (7, 0), (0, 7), (7, 7)]:
            self.waits(play(self.site, plan_of(f"start {x} {y} 0"), []), None, 0, (x, y), None)

    def test_start_in_a_barred_room_is_no_mismatch(self):
        site = site_of("yard 8 8 ; slip 0 0 0 ; barred pit 0 0 0 0")
        self.ends(play(site, plan_of("start 0 0 0"), [STILL]), "barred", (0, 0), (0, 0), "barred")

    def test_names_that_the_site_lacks(self):
        self.lacks("none", self.site, plan_of("start 0 0 0 ; go east 1 ; stop none"))
        self.lacks("none", self.site, plan_of("start 0 0 0 ; see none ; end"))
        self.lacks("lamp", self.site, plan_of("start 0 0 0 ; stop lamp"))
        self.lacks("hall", self.site, plan_of("start 0 0 0 ; see hall ; end"))

    def test_first_name_by_rows(self):
        self.lacks("b", self.site, plan_of("start 0 0 0 ; stop hall ; see b ; stop a ; else ; stop c ; end ; see a ; end"))
        self.lacks("c", self.site, plan_of("start 0 0 0 ; if x < 0 ; see lamp ; else ; stop c ; end ; else ; stop a ; end ; stop b"))
        self.lacks("a", self.site, plan_of("start 0 0 0 ; while x < 0 ; go east 1 ; stop a ; end ; stop b"))

    def test_mismatch_comes_ahead_of_wrong_pairs(self):
        for pairs in (None, [None], [STILL] * 9, 5):
            self.lacks("start", self.site, plan_of("start 8 0 0"), pairs)
            self.lacks("none", self.site, plan_of("start 0 0 0 ; stop none"), pairs)

    def test_by_name(self):
        self.waits(play(pairs=[STILL], plan=self.plan, site=self.site), 0, 0, (4, 4), (4, 4))

    def test_same_call_same_result(self):
        first = vars(play(self.site, self.plan, [STILL, STILL]))
        play(self.site, self.plan, [STILL, (-1, 0), STILL, STILL])
        self.assertEqual(vars(play(self.site, self.plan, [STILL, STILL])), first)
        self.assertEqual(str(self.plan), "start 4 4 1\ngo east 2\nsee lamp\nstop hall\nend")

    def test_kinds_of_the_attributes(self):
        played = play(self.site, self.plan, [STILL] * 4)
        self.assertEqual([type(value) for value in (played.trail, played.faults, played.belief, played.place)], [tuple] * 4)
        self.assertEqual(set(map(type, played.trail)), {tuple})
        self.assertRaises(TypeError, iter, played)


class TestAgainstTheModel(RunCase):
    """Runs of many sites and plans, drawn with a fixed seed, played by the program and by the model."""

    def site(self, draw):
        def box():
            x, y = draw.randint(-1, 5), draw.randint(-1, 5)
            return (x, y), (x + draw.randint(0, 3), y + draw.randint(0, 3))

        rooms = [Room(name, *box(), draw.random() < 0.2) for name in "abc"]
        marks = [Mark(name, *box(), draw.randint(0, 2)) for name in "ab"]
        slips = tuple(draw.choice([0, 0, 1, 2]) for _ in range(3))
        return Site((draw.randint(4, 9), draw.randint(1, 9)), slips, rooms, marks)

    def rows(self, draw, depth):
        return [self.row(draw, depth) for _ in range(draw.randint(0, 3))]

    def row(self, draw, depth):
        test = f"{draw.choice('xy')} {draw.choice(['<', '>='])} {draw.randint(-1, 6)}"
        go = Go(draw.choice(["east", "west", "north", "south"]), draw.randint(1, 3))
        kind = draw.choice("gggss" if depth == 0 else "gggsiww" + "mm")
        if kind == "i":
            return If(test, self.rows(draw, depth - 1), self.rows(draw, depth - 1))
        if kind == "w":
            return While(test, [go] + self.rows(draw, depth - 1))
        if kind == "m":
            return See(draw.choice("ab"), self.rows(draw, depth - 1), self.rows(draw, depth - 1))
        return Stop(draw.choice("abc")) if kind == "s" and draw.random() < 0.4 else go

    def test_drawn_runs(self):
        draw = random.Random(20)
        words = set()
        for _ in range(1000):
            site = self.site(draw)
            start = draw.randrange(site.size[0]), draw.randrange(site.size[1])
            plan = Plan(start, draw.randint(0, 1), self.rows(draw, 3))
            words.add(self.one_run(draw, site, plan))
        self.assertEqual(words, {"a", "b", "c", "end", "barred", "halted", None})

    def one_run(self, draw, site, plan):
        model = Model(site, plan)
        asked = model.pairs()
        pairs, trail = [], []
        wait = next(asked)
        while wait is not None and len(pairs) < 12:
            played = play(site, plan, pairs)
            self.assertEqual((played.ended, played.row, played.done), (None, wait[0], wait[1]))
            self.assertEqual((played.belief, played.place, played.faults), (model.belief, model.place, ()))
            self.assertEqual(self.allowed(site, plan, pairs, 3), wait[2])
            pairs.append(draw.choice(sorted(wait[2]) + [STILL] * len(wait[2])))
            try:
                wait = asked.send(pairs[-1])
            except StopIteration:
                wait = None
            trail.append((model.belief, model.place))
        played = play(site, plan, pairs)
        self.assertEqual((played.ended, played.trail), (model.ended, tuple(trail)))
        self.assertEqual(played.faults, self.faults(site, model))
        return model.ended

    def faults(self, site, model):
        if model.ended in ("barred", "halted"):
            return (model.ended,)
        if model.ended in ("a", "b", "c"):
            room = site.rooms["abc".index(model.ended)]
            near = [low <= t <= high for low, t, high in zip(room.low, model.place, room.high)]
            return () if all(near) else ("astray",)
        return ()


if __name__ == "__main__":
    unittest.main()
