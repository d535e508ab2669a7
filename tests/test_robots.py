"""Robots, points [23] and [24]; a comparison with a plain search is in test_views.py."""

import unittest

from slipsights.cells import Cells
from slipsights.errors import Mismatch, Refused
from slipsights.plans import Plan
from slipsights.robots import Robot
from slipsights.sites import Site
from tests.samples import any_values, is_pair

FAULTS = ("barred", "halted", "astray", "endless")
BIG = 10 ** 24 + 7


def site_of(text):
    return Site.read(text.replace(" ; ", "\n"))


def plan_of(text):
    return Plan.read(text.replace(" ; ", "\n"))


def state(robot):
    """All that can be told of a robot without changing it."""
    faults = [robot.may(fault) for fault in FAULTS]
    return (robot.belief, robot.row, robot.done, robot.ended, robot.cells().members, len(robot), faults)


class RobotCase(unittest.TestCase):
    def setUp(self):
        self.site = site_of(
            "yard 9 3 ; slip 0 1 0 ; room goal 5 0 8 2 ; room a 0 0 8 2 ; barred pit 3 0 3 0 ; mark lamp 2 0 5 1 1 ; "
            "mark sun 0 0 8 2 0 ; mark far 8 2 8 2 0"
        )

    def robot(self, rows):
        return Robot(self.site, plan_of(rows))

    def is_at(self, robot, row, done, belief, cells, ended=None):
        self.assertEqual((robot.row, robot.done, robot.belief, robot.ended), (row, done, belief, ended))
        self.assertEqual(str(robot.cells()), cells)

    def may(self, robot, *faults):
        """These are the faults that the runs of the robot can have."""
        self.assertEqual([robot.may(fault) for fault in FAULTS], [fault in faults for fault in FAULTS])

    def refuses(self, robot, word, deed, *arguments):
        before = state(robot)
        with self.assertRaises(Refused) as caught:
            deed(*arguments)
        self.assertEqual(caught.exception.word, word)
        self.assertEqual(state(robot), before)


class TestBeginning(RobotCase):
    def test_waits_at_the_first_step(self):
        robot = self.robot("start 0 0 0 ; go east 2")
        self.is_at(robot, 0, 0, (0, 0), "0.0")
        self.assertEqual(len(robot), 0)
        self.assertIs(type(robot.cells()), Cells)

    def test_tests_come_by_themselves(self):
        rows = "start 2 1 0 ; if x < 2 ; go east 1 ; else ; while y >= 2 ; go north 1 ; end ; if y < 9 ; go west {} ; end ; end"
        self.is_at(self.robot(rows.format(2)), 5, 0, (2, 1), "2.1")

    def test_waits_at_each_see(self):
        self.is_at(self.robot("start 2 1 0 ; see lamp ; end"), 0, 0, (2, 1), "2.1")
        self.is_at(self.robot("start 0 0 0 ; see lamp ; else ; see far ; end ; end"), 0, 0, (0, 0), "0.0")

    def test_ends_come_by_themselves(self):
        self.is_at(self.robot("start 2 1 0"), None, 0, (2, 1), "2.1", "end")
        self.is_at(self.robot("start 2 1 0 ; stop goal ; go east 1"), None, 0, (2, 1), "2.1", "goal")
        self.is_at(self.robot("start 0 1 0 ; if x < 5 ; go west 1 ; end"), None, 0, (0, 1), "0.1", "halted")

    def test_places_of_a_start_that_is_barred_in_part(self):
        self.is_at(self.robot("start 0 0 1 ; go east 1"), 0, 0, (0, 0), "0.0 0.1 1.0 1.1")
        self.is_at(self.robot("start 3 1 1 ; go east 1"), 0, 0, (3, 1), "2.0 2.1 2.2 3.1 3.2 4.0 4.1 4.2")
        self.is_at(self.robot("start 3 0 1"), None, 0, (3, 0), "2.0 2.1 3.1 4.0 4.1", "end")
        self.assertEqual(len(self.robot("start 3 1 99").cells()), 26)

    def test_start_that_is_barred_wholly(self):
        for rows in ("start 3 0 0", "start 3 0 0 ; go east 1", "start 3 0 0 ; see sun ; end", "start 3 0 0 ; stop a"):
            with self.assertRaises(Refused) as caught:
                self.robot(rows)
            self.assertEqual(caught.exception.word, "never")
        self.site = site_of("yard 3 3 ; slip 0 0 0 ; barred pit -9 -9 9 9")
        with self.assertRaises(Refused):
            self.robot("start 1 1 99 ; go east 1")

    def test_mismatch_first(self):
        for rows, name in [
            ("start 9 0 0", "start"), ("start 3 0 0 ; stop none", "none"), ("start 3 0 0 ; see goal ; end", "goal"),
            ("start 3 0 0 ; see sun ; else ; stop lamp ; end ; stop none", "lamp"), ("start -1 0 0 ; stop none", "start"),
        ]:
            with self.assertRaises(Mismatch) as caught:
                self.robot(rows)
            self.assertEqual(caught.exception.name, name)

    def test_attributes_are_set_on_each_robot(self):
        for rows in ("start 0 0 0", "start 0 0 0 ; go east 1"):
            robot = Robot(plan=plan_of(rows), site=self.site)
            self.assertLessEqual({"belief", "row", "done", "ended"}, set(vars(robot)))

    def test_not_iterable(self):
        robot = self.robot("start 0 0 0 ; go east 1")
        for one in (robot, robot.trial()):
            self.assertRaises(TypeError, iter, one)
            self.assertRaises(TypeError, list, one)


class TestSteps(RobotCase):
    def test_in_the_middle_of_the_steps(self):
        robot = self.robot("start 0 1 0 ; go east 3 ; go north 1")
        self.assertIsNone(robot.step())
        self.is_at(robot, 0, 1, (1, 1), "1.1 2.1")
        self.assertIsNone(robot.step())
        self.is_at(robot, 0, 2, (2, 1), "2.1 3.1 4.1")
        self.assertIsNone(robot.step())
        self.is_at(robot, 1, 0, (3, 1), "3.1 4.1 5.1 6.1")
        self.assertEqual(len(robot), 3)

    def test_the_robot_was_not_barred(self):
        robot = self.robot("start 1 0 0 ; go east 2 ; stop goal")
        robot.step()
        self.is_at(robot, 0, 1, (2, 0), "2.0")
        robot.step()
        # The slip leads across the barred cell.
        self.is_at(robot, None, 0, (3, 0), "4.0", "goal")

    def test_at_the_edge_of_the_yard(self):
        robot = self.robot("start 7 1 1 ; go east 2")
        self.is_at(robot, 0, 0, (7, 1), "6.0 6.1 6.2 7.0 7.1 7.2 8.0 8.1 8.2")
        robot.step()
        self.is_at(robot, None, 0, (8, 1), "7.0 7.1 7.2 8.0 8.1 8.2", "halted")

    def test_each_way_with_slips(self):
        self.site = site_of("yard 9 9 ; slip 2 1 1")
        for way, belief, low, high in [
            ("east", (5, 4), (3, 3), (6, 5)), ("west", (3, 4), (2, 3), (5, 5)),
            ("north", (4, 5), (3, 3), (5, 6)), ("south", (4, 3), (3, 2), (5, 5)),
        ]:
            robot = self.robot(f"start 4 4 0 ; go {way} 2")
            robot.step()
            self.assertEqual((robot.belief, robot.done), (belief, 1))
            cells = [(x, y) for x in range(low[0], high[0] + 1) for y in range(low[1], high[1] + 1)]
            self.assertEqual(robot.cells(), Cells(cells))

    def test_never(self):
        self.site = site_of("yard 4 1 ; slip 0 1 0 ; barred pit 1 0 2 0")
        robot = self.robot("start 0 0 0 ; go east 1")
        self.may(robot, "barred")
        self.refuses(robot, "never", robot.step)
        robot = self.robot("start 2 0 1 ; go west 1")
        self.is_at(robot, 0, 0, (2, 0), "3.0")
        self.refuses(robot, "never", robot.step)

    def test_halts_in_the_middle(self):
        robot = self.robot("start 1 1 0 ; go west 3")
        robot.step()
        self.is_at(robot, None, 0, (0, 1), "0.1", "halted")
        self.refuses(robot, "row", robot.step)
        self.site = site_of("yard 9 3 ; slip 1 0 0")
        robot = self.robot("start 1 1 0 ; go west 3")
        robot.step()
        self.is_at(robot, None, 0, (0, 1), "0.1 1.1", "halted")

    def test_loops(self):
        robot = self.robot("start 0 1 0 ; while x < 2 ; go east 1 ; if y < 9 ; end ; end ; stop goal")
        robot.step()
        self.is_at(robot, 1, 0, (1, 1), "1.1 2.1")
        robot.step()
        self.is_at(robot, None, 0, (2, 1), "2.1 3.1 4.1", "goal")


class TestSights(RobotCase):
    def test_a_sight_with_a_blur(self):
        robot = self.robot("start 4 1 1 ; see lamp ; go west 1 ; end")
        self.assertIsNone(robot.sight((5, 2)))
        # The landmark is not seen from (4, 2), (5, 2), and the start was not at (6, 1).
        self.is_at(robot, 1, 0, (5, 2), "4.1 5.1")
        robot = self.robot("start 4 1 1 ; see lamp ; go west 1 ; end")
        robot.sight((3, 0))
        # And (3, 0) is barred.
        self.is_at(robot, 1, 0, (3, 0), "3.1 4.0 4.1")

    def test_a_sight_without_a_blur(self):
        robot = self.robot("start 4 1 1 ; see sun ; stop goal ; end")
        robot.sight((5, 2))
        self.is_at(robot, None, 0, (5, 2), "5.2", "goal")

    def test_a_miss(self):
        robot = self.robot("start 5 1 1 ; see lamp ; go north 1 ; else ; go south 1 ; end")
        self.assertIsNone(robot.miss())
        self.is_at(robot, 2, 0, (5, 1), "4.2 5.2 6.0 6.1 6.2")

    def test_what_was_seen_and_missed_stays_known(self):
        robot = self.robot("start 4 1 1 ; see lamp ; see lamp ; end ; end")
        robot.sight((4, 1))
        self.is_at(robot, 1, 0, (4, 1), "3.1 4.0 4.1 5.0 5.1")
        robot.sight((5, 2))
        self.is_at(robot, None, 0, (5, 2), "4.1 5.1", "end")
        robot = self.robot("start 4 1 1 ; see lamp ; else ; see lamp ; end ; end")
        robot.miss()
        self.refuses(robot, "never", robot.sight, (4, 1))
        robot.miss()
        self.is_at(robot, None, 0, (4, 1), "3.2 4.2 5.2", "end")

    def test_surely_seen(self):
        robot = self.robot("start 4 1 0 ; see lamp ; go west 1 ; else ; go south 1 ; end")
        self.is_at(robot, 0, 0, (4, 1), "4.1")
        self.refuses(robot, "never", robot.miss)
        robot.sight((4, 2))
        self.is_at(robot, 1, 0, (4, 2), "4.1")

    def test_surely_missed(self):
        robot = self.robot("start 0 1 0 ; see lamp ; go north 1 ; else ; see far ; end ; end")
        for x in range(-1, 10):
            for y in range(-1, 4):
                self.refuses(robot, "never", robot.sight, (x, y))
        robot.miss()
        self.is_at(robot, 2, 0, (0, 1), "0.1")
        robot.miss()
        self.is_at(robot, None, 0, (0, 1), "0.1", "end")
        self.assertEqual(len(robot), 2)

    def test_beliefs_that_cannot_be(self):
        robot = self.robot("start 0 0 0 ; go east 1 ; see lamp ; end")
        robot.step()
        self.is_at(robot, 1, 0, (1, 0), "1.0 2.0")
        # Seen it is from (2, 0) alone, and a belief is a cell of the yard.
        good = [(1, 0), (1, 1), (2, 0), (2, 1), (3, 0), (3, 1)]
        beliefs = [(x, y) for x in range(-3, 12) for y in range(-3, 6)] + [(BIG, 0), (0, -BIG), (-99, 99)]
        for belief in beliefs:
            if belief in good:
                robot.sight(belief)
                self.is_at(robot, None, 0, belief, "2.0", "end")
                self.assertIs(robot.undo(), True)
            else:
                self.refuses(robot, "never", robot.sight, belief)

    def test_a_barred_belief_can_be(self):
        robot = self.robot("start 2 0 0 ; see lamp ; end")
        robot.sight((3, 0))
        self.is_at(robot, None, 0, (3, 0), "2.0", "end")

    def test_any_values_for_a_belief(self):
        robot = self.robot("start 2 0 0 ; see lamp ; end")
        for value in any_values():
            if not is_pair(value):
                self.refuses(robot, "belief", robot.sight, value)
        robot.sight(belief=(2, 0))
        self.assertEqual(robot.ended, "end")

    def test_the_belief_is_asked_behind_the_row(self):
        for rows in ("start 2 0 0 ; go west 1", "start 2 0 0"):
            robot = self.robot(rows)
            for value in (None, [0, 0], (0, True), (99, 99), (2, 0)):
                self.refuses(robot, "row", robot.sight, value)

    def test_the_robot_does_not_know_the_slips(self):
        robot = self.robot("start 0 2 0 ; go east 2 ; see sun ; go east 1 ; see sun ; end ; end")
        robot.step()
        robot.step()
        robot.sight((4, 2))
        self.is_at(robot, 2, 0, (4, 2), "4.2")
        robot.step()
        self.is_at(robot, 3, 0, (5, 2), "5.2 6.2")
        robot.sight((6, 2))
        self.is_at(robot, None, 0, (6, 2), "6.2", "end")


class TestRefusedRows(RobotCase):
    def test_deeds_for_which_it_does_not_wait(self):
        robot = self.robot("start 0 0 0 ; go east 2 ; see sun ; end")
        self.refuses(robot, "row", robot.miss)
        self.refuses(robot, "row", robot.sight, (0, 0))
        robot.step()
        self.refuses(robot, "row", robot.miss)
        self.refuses(robot, "row", robot.sight, (1, 0))
        robot.step()
        self.refuses(robot, "row", robot.step)
        robot.sight((2, 0))
        for deed, arguments in [(robot.step, ()), (robot.miss, ()), (robot.sight, ((2, 0),)), (robot.sight, (None,))]:
            self.refuses(robot, "row", deed, *arguments)

    def test_robots_that_have_ended(self):
        for rows in ("start 0 0 0", "start 0 0 0 ; stop goal", "start 0 0 0 ; go west 1 ; see sun ; end"):
            robot = self.robot(rows)
            self.assertIsNotNone(robot.ended)
            self.refuses(robot, "row", robot.step)
            self.refuses(robot, "row", robot.miss)
            self.refuses(robot, "row", robot.sight, (0, 0))


class TestMay(RobotCase):
    def test_ahead_of_all(self):
        self.may(self.robot("start 0 1 0 ; go east 2"))
        self.may(self.robot("start 1 0 0 ; go east 2"), "barred")
        self.may(self.robot("start 1 1 0 ; go west 2"), "barred", "halted")
        self.may(self.robot("start 0 1 0 ; go east 2 ; stop goal"), "astray")
        self.may(self.robot("start 0 1 0 ; while x < 2 ; go east 1 ; see sun ; go west 1 ; end ; end ; stop a"), "barred", "endless")

    def test_a_robot_at_its_start_is_not_barred(self):
        self.may(self.robot("start 3 0 1 ; stop a"))
        self.may(self.robot("start 3 0 1 ; stop goal"), "astray")
        self.may(self.robot("start 3 0 1"))

    def test_only_runs_that_agree(self):
        rows = "start 0 1 0 ; go east 3 ; see lamp ; else ; stop a ; end ; stop goal"
        robot = self.robot(rows)
        self.may(robot, "astray")
        for _ in range(3):
            robot.step()
        self.is_at(robot, 1, 0, (3, 1), "3.1 4.1 5.1 6.1")
        self.may(robot, "astray")
        with robot.trial():
            robot.miss()
            self.is_at(robot, None, 0, (3, 1), "6.1", "a")
            self.may(robot)
        with robot.trial():
            robot.sight((6, 1))
            self.is_at(robot, None, 0, (6, 1), "5.1", "goal")
            self.may(robot)
        with robot.trial():
            robot.sight((5, 1))
            self.is_at(robot, None, 0, (5, 1), "4.1 5.1", "goal")
            self.may(robot, "astray")

    def test_in_the_middle_of_the_steps(self):
        robot = self.robot("start 1 0 0 ; go east 3")
        self.may(robot, "barred")
        robot.step()
        self.may(robot, "barred")
        robot.step()
        self.is_at(robot, 0, 2, (3, 0), "4.0")
        self.may(robot)

    def test_ended(self):
        self.may(self.robot("start 0 0 0 ; go west 1"), "halted")
        self.may(self.robot("start 0 0 0 ; stop goal"), "astray")
        self.may(self.robot("start 5 0 0 ; stop goal"))
        self.may(self.robot("start 5 0 1 ; stop goal"), "astray")
        self.may(self.robot("start 0 0 0"))
        self.site = site_of("yard 3 3 ; slip 0 0 0 ; barred pit 0 0 1 1")
        self.may(self.robot("start 1 1 1 ; stop pit"), "astray")

    def test_endless(self):
        rows = "start 0 1 0 ; while x < 3 ; go east 1 ; see far ; else ; go west 1 ; see sun ; end ; end ; end"
        robot = self.robot(rows)
        self.may(robot, "barred", "endless")
        robot.step()
        robot.miss()
        robot.step()
        self.is_at(robot, 4, 0, (0, 1), "0.1 1.1")
        self.may(robot, "barred", "endless")
        robot = self.robot("start 0 1 0 ; while x < 2 ; go east 1 ; end ; stop a")
        self.may(robot)
        robot.step()
        self.may(robot)

    def test_endless_only_for_what_is_known(self):
        # The loop goes on for ever only if the landmark is not seen, and where it is seen that is known.
        rows = "start 4 2 1 ; see lamp ; go west 1 ; go east 1 ; else ; while x < 9 ; go north 1 ; go south 1 ; end ; end"
        self.site = site_of("yard 9 9 ; slip 0 0 0 ; mark lamp 2 0 5 1 0")
        robot = self.robot(rows)
        self.may(robot, "endless")
        with robot.trial():
            robot.sight((4, 1))
            self.may(robot)
        robot.miss()
        self.may(robot, "endless")

    def test_by_name(self):
        self.assertIs(self.robot("start 0 0 0 ; go west 1").may(fault="halted"), True)


class TestUndo(RobotCase):
    def test_at_the_beginning(self):
        for rows in ("start 0 0 0", "start 0 0 0 ; go east 1", "start 0 0 0 ; see lamp ; end"):
            robot = self.robot(rows)
            before = state(robot)
            for _ in range(3):
                self.assertIs(robot.undo(), False)
                self.assertEqual(state(robot), before)

    def test_each_deed(self):
        self.site = site_of("yard 9 3 ; slip 0 1 0 ; room goal 5 0 8 2 ; mark lamp 3 0 5 1 1 ; mark sun 0 0 8 2 0")
        robot = self.robot("start 0 0 0 ; go east 2 ; see lamp ; else ; see sun ; stop goal ; end ; end")
        states = [state(robot)]
        for deed, arguments in [(robot.step, ()), (robot.step, ()), (robot.miss, ()), (robot.sight, ((2, 0),))]:
            deed(*arguments)
            states.append(state(robot))
        self.assertEqual(robot.ended, "goal")
        for many in (4, 3, 2, 1):
            self.assertEqual(len(robot), many)
            self.assertEqual(state(robot), states[many])
            self.assertIs(robot.undo(), True)
        self.assertEqual(state(robot), states[0])
        self.assertIs(robot.undo(), False)
        robot.step()
        self.assertEqual(state(robot), states[1])

    def test_refused_deeds_cannot_be_taken_back(self):
        robot = self.robot("start 0 0 0 ; go east 2 ; see lamp ; end")
        self.refuses(robot, "row", robot.miss)
        self.assertEqual((len(robot), robot.undo()), (0, False))
        robot.step()
        self.refuses(robot, "row", robot.sight, None)
        self.assertEqual((len(robot), robot.undo(), len(robot)), (1, True, 0))

    def test_other_deeds_behind_it(self):
        robot = self.robot("start 4 1 1 ; see lamp ; go west 1 ; else ; go east 1 ; end")
        before = state(robot)
        robot.sight((5, 2))
        robot.step()
        self.assertEqual([robot.undo(), robot.undo()], [True, True])
        self.assertEqual(state(robot), before)
        robot.miss()
        self.is_at(robot, 2, 0, (4, 1), "3.2 4.2 5.2")


class Left(Exception):
    """What is raised in a block."""


class TestTrials(RobotCase):
    def setUp(self):
        super().setUp()
        self.rows = "start 0 1 0 ; go east 3 ; see lamp ; stop goal ; else ; go west 2 ; end"

    def test_the_value_is_the_robot(self):
        robot = self.robot(self.rows)
        before = state(robot)
        with robot.trial() as other:
            self.assertIs(other, robot)
            robot.step()
            self.assertEqual(len(robot), 1)
        self.assertEqual(state(robot), before)

    def test_it_is_as_when_it_was_entered(self):
        robot = self.robot(self.rows)
        trial = robot.trial()
        robot.step()
        before = state(robot)
        with trial:
            robot.step()
            robot.step()
            robot.sight((4, 1))
            self.assertEqual(robot.ended, "goal")
        self.assertEqual(state(robot), before)
        self.assertEqual((robot.undo(), len(robot)), (True, 0))

    def test_a_new_one_each_time(self):
        robot = self.robot(self.rows)
        self.assertIsNot(robot.trial(), robot.trial())
        for _ in range(3):
            with robot.trial():
                robot.step()
            robot.step()
        self.assertEqual((len(robot), robot.row), (3, 1))

    def test_left_by_an_error(self):
        robot = self.robot(self.rows)
        robot.step()
        before = state(robot)
        with self.assertRaises(Left):
            with robot.trial():
                robot.step()
                raise Left()
        self.assertEqual(state(robot), before)
        with self.assertRaises(Refused) as caught:
            with robot.trial():
                robot.step()
                robot.miss()
        self.assertEqual(caught.exception.word, "row")
        self.assertEqual(state(robot), before)

    def test_deeds_from_ahead_of_it_are_taken_back_in_it(self):
        robot = self.robot(self.rows)
        states = [state(robot)]
        for _ in range(3):
            robot.step()
            states.append(state(robot))
        with robot.trial():
            self.assertEqual([robot.undo(), robot.undo()], [True, True])
            self.assertEqual(state(robot), states[1])
        self.assertEqual(state(robot), states[3])
        with robot.trial():
            while robot.undo():
                pass
            robot.step()
        self.assertEqual(state(robot), states[3])
        for many in (2, 1, 0):
            self.assertIs(robot.undo(), True)
            self.assertEqual(state(robot), states[many])

    def test_trials_within_trials(self):
        robot = self.robot(self.rows)
        robot.step()
        outer = state(robot)
        with robot.trial():
            robot.step()
            inner = state(robot)
            with self.assertRaises(Left):
                with robot.trial():
                    robot.undo()
                    robot.undo()
                    with robot.trial() as deepest:
                        deepest.step()
                    self.assertEqual(len(robot), 0)
                    raise Left()
            self.assertEqual(state(robot), inner)
            robot.undo()
            robot.undo()
        self.assertEqual(state(robot), outer)
        self.assertEqual([robot.undo(), robot.undo()], [True, False])

    def test_a_robot_that_has_ended(self):
        robot = self.robot("start 0 1 0 ; go east 1")
        robot.step()
        before = state(robot)
        self.assertEqual(robot.ended, "end")
        with robot.trial():
            robot.undo()
            self.assertIsNone(robot.ended)
        self.assertEqual(state(robot), before)

    def test_two_robots(self):
        one, other = self.robot(self.rows), self.robot(self.rows)
        with one.trial():
            other.step()
            one.step()
            one.step()
        self.assertEqual((len(one), len(other)), (0, 1))


class TestWithin(RobotCase):
    def setUp(self):
        super().setUp()
        self.made = self.robot("start 0 1 0 ; go east 3 ; see lamp ; stop goal ; else ; go west 2 ; end")

    def test_returns_what_the_work_returns(self):
        robot = self.made
        before = state(robot)
        asked = []

        def work(other):
            asked.append(other)
            other.step()
            other.step()
            return [str(other.cells()), len(other)]

        self.assertEqual(robot.within(work), ["2.1 3.1 4.1", 2])
        self.assertEqual(len(asked), 1)
        self.assertIs(asked[0], robot)
        self.assertEqual(state(robot), before)
        self.assertIsNone(robot.within(lambda other: other.step()))
        self.assertIs(robot.within(work=lambda other: other), robot)
        self.assertIs(robot.within(Robot.undo), False)
        self.assertEqual(state(robot), before)

    def test_the_work_raises(self):
        robot = self.made
        robot.step()
        before = state(robot)
        error = Left()

        def work(other):
            other.undo()
            other.step()
            other.step()
            raise error

        with self.assertRaises(Left) as caught:
            robot.within(work)
        self.assertIs(caught.exception, error)
        self.assertEqual(state(robot), before)
        with self.assertRaises(Refused):
            robot.within(lambda other: other.miss())
        self.assertEqual(state(robot), before)

    def test_work_within_work(self):
        robot = self.made
        before = state(robot)

        def work(other):
            other.step()
            inner = other.within(lambda one: (one.step(), one.step(), one.row)[2])
            return inner, other.done

        self.assertEqual(robot.within(work), (1, 1))
        self.assertEqual(state(robot), before)


class TestNothingElseChanges(RobotCase):
    def test_the_same_call_returns_the_same(self):
        robot = self.robot("start 0 1 0 ; go east 3 ; see lamp ; stop goal ; end")
        for _ in range(3):
            first = state(robot)
            other = self.robot("start 0 1 0 ; go east 1")
            other.step()
            self.assertEqual(state(robot), first)
            robot.step()

    def test_cells_that_were_returned_stay(self):
        robot = self.robot("start 0 1 0 ; go east 3")
        cells = robot.cells()
        robot.step()
        self.assertEqual((str(cells), str(robot.cells())), ("0.1", "1.1 2.1"))


if __name__ == "__main__":
    unittest.main()
