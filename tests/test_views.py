"""Robots, points [23] and [24], compared with a plain search through all runs that show the same."""

import random
import unittest

from slipsights.errors import Refused
from slipsights.robots import Robot
from slipsights.runs import play
from tests.draws import drawn_plan, drawn_site
from tests.model import Model
from tests.search import is_end
from tests.views import Views

FAULTS = ("barred", "halted", "astray", "endless")


def told(robot):
    """What a robot tells of itself."""
    return (robot.belief, robot.row, robot.done, robot.ended, robot.cells().members)


def expected_of(runs):
    """The same of a robot whose run is one of these."""
    run = min(runs)
    cells = tuple(sorted({one[-1] for one in runs}))
    if is_end(run):
        return (run[1], None, 0, run[0], cells)
    return (run[2], run[0], run[1], None, cells)


def do(robot, deed):
    """Do a deed; return the word with which it is refused, or None."""
    try:
        if deed[0] == "sight":
            robot.sight(deed[1])
        else:
            {"step": robot.step, "miss": robot.miss}[deed[0]]()
    except Refused as error:
        return error.word
    return None


class TestAllThatRobotsKnow(unittest.TestCase):
    def test_drawn_robots(self):
        draw = random.Random(31)
        self.seen = {word: 0 for word in FAULTS + ("step", "sight", "miss", "ended", "never")}
        for _ in range(900):
            site = drawn_site(draw)
            plan = drawn_plan(draw, site, 1, 8)
            views = Views(site, plan)
            with self.subTest(site=str(site), plan=str(plan)):
                self.follow(draw, site, plan, views)
        self.assertGreater(min(self.seen.values()), 50, self.seen)

    def follow(self, draw, site, plan, views):
        """Do drawn deeds, and compare all that is known at each of them."""
        if not views.begun:
            with self.assertRaises(Refused) as caught:
                Robot(site, plan)
            self.assertEqual(caught.exception.word, "never")
            self.seen["never"] += 1
            return
        robot, past, runs = Robot(site, plan), [], views.begun
        for _ in range(draw.randint(1, 12)):
            self.compare(robot, views, runs)
            self.assertEqual(len(robot), len(past))
            deeds = views.by_deed(runs)
            self.refuse_others(site, robot, deeds, expected_of(runs))
            if past and (not deeds or draw.random() < 0.2):
                self.assertIs(robot.undo(), True)
                runs = past.pop()
            elif deeds:
                deed = draw.choice(sorted(deeds))
                self.assertIsNone(do(robot, deed))
                self.seen[deed[0]] += 1
                past.append(runs)
                runs = deeds[deed]
        self.compare(robot, views, runs)

    def compare(self, robot, views, runs):
        self.assertEqual(len({one[:-1] for one in runs}), 1)
        self.assertEqual(told(robot), expected_of(runs))
        faults = views.faults_ahead(runs)
        for fault in FAULTS:
            self.assertIs(robot.may(fault), fault in faults)
            self.seen[fault] += fault in faults
        self.seen["ended"] += robot.ended is not None

    def refuse_others(self, site, robot, deeds, expected):
        """All deeds that no run shows are refused."""
        waits = {deed[0] for deed in deeds}
        if waits & {"sight", "miss"}:
            waits = {"sight", "miss"}
        if not waits and robot.row is not None:
            # All places behind the step are barred.
            waits = {"step"}
        beliefs = [(x, y) for x in range(-2, site.size[0] + 2) for y in range(-2, site.size[1] + 2)]
        for deed in [("step",), ("miss",)] + [("sight", belief) for belief in beliefs]:
            if deed not in deeds:
                self.assertEqual(do(robot, deed), "never" if deed[0] in waits else "row", deed)
        self.assertEqual(told(robot), expected)


class TestAlongDrawnRuns(unittest.TestCase):
    def test_the_run_is_one_of_those_that_the_robot_knows(self):
        draw = random.Random(32)
        seen = {"pairs": 0, "misses": 0, "middle": 0, "ended": 0, "barred": 0}
        for _ in range(500):
            site = drawn_site(draw, draw.choice([5, 8]))
            plan = drawn_plan(draw, site, 1, 9)
            with self.subTest(site=str(site), plan=str(plan)):
                self.follow(draw, site, plan, seen)
        self.assertGreater(min(seen.values()), 30, seen)

    def follow(self, draw, site, plan, seen):
        model = Model(site, plan)
        asks = model.pairs()
        _, _, allowed = next(asks)
        robot, pairs = None, []
        for _ in range(20):
            pairs.append(draw.choice(sorted(allowed)))
            try:
                allowed = asks.send(pairs[-1])[2]
            except StopIteration:
                allowed = None
            played = play(site, plan, pairs)
            if played.ended == "barred":
                seen["barred"] += 1
                return
            if robot is None:
                robot = Robot(site, plan)
            else:
                self.do_as(robot, played, plan)
            seen["misses"] += self.miss_until(robot, played)
            self.same(robot, played)
            seen["pairs"] += 1
            seen["middle"] += robot.done > 0
            if allowed is None:
                seen["ended"] += 1
                return

    def do_as(self, robot, played, plan):
        """The deed that the last pair of a run is."""
        if str(plan[robot.row]).startswith("go"):
            robot.step()
        else:
            robot.sight(played.belief)

    def miss_until(self, robot, played):
        """The run goes on where it misses a landmark; the robot has to be told. Return how often."""
        many = 0
        while (robot.row, robot.ended) != (played.row, played.ended):
            robot.miss()
            many += 1
        return many

    def same(self, robot, played):
        self.assertEqual(
            (robot.belief, robot.row, robot.done, robot.ended), (played.belief, played.row, played.done, played.ended),
        )
        self.assertIn(played.place, robot.cells())
        for fault in played.faults:
            self.assertIs(robot.may(fault), True)


if __name__ == "__main__":
    unittest.main()
