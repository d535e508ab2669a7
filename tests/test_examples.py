"""The examples of the document, with the site and the plans of section 1."""

import doctest
import pathlib
import unittest

from slipsights.cells import ends
from slipsights.certificates import certificate, certificate_holds
from slipsights.deciding import longest, never, shortest
from slipsights.desk import Desk
from slipsights.plans import Plan
from slipsights.robots import Robot
from slipsights.runs import play
from slipsights.sites import Site
from slipsights.spans import Span


class TestExamples(unittest.TestCase):
    def setUp(self):
        self.site = Site.read("yard 8 1\nslip 0 1 0\nroom goal 4 0 7 0\nmark lamp 3 0 5 0 0")
        self.blind = Plan.read("start 0 0 0\ngo east 4\nstop goal")
        self.seeing = Plan.read("start 0 0 0\nwhile x < 4\ngo east 1\nsee lamp\nend\nend\nstop goal")

    def test_section_1(self):
        site, blind, seeing = self.site, self.blind, self.seeing
        self.assertEqual(
            (never(site, blind, "barred"), shortest(site, blind, "barred"), never(site, blind, "astray")),
            (False, ((0, 0), (1, 0), (1, 0), (1, 0), (1, 0)), True),
        )
        self.assertEqual(
            (never(site, seeing, "barred"), never(site, seeing, "astray"), longest(site, seeing)), (True, True, 7),
        )

    def test_runs_of_section_1(self):
        played = play(self.site, self.blind, ((0, 0), (1, 0), (1, 0), (1, 0), (1, 0)))
        self.assertEqual((played.ended, played.place, played.faults), ("barred", (8, 0), ("barred",)))
        self.assertEqual(play(self.site, self.seeing, ((0, 0), (1, 0), (1, 0))).row, 2)

    def test_section_5(self):
        site, seeing = self.site, self.seeing
        self.assertEqual(
            (site.is_barred((8, 0)), site.room_of("goal").high, str(site).split("\n")[1], len(seeing),
             str(seeing.without(2)).split("\n")[1:4]),
            (True, (7, 0), "slip 0 1 0", 4, ["while x < 4", "go east 1", "end"]),
        )

    def test_section_6(self):
        played = play(self.site, self.seeing, [(0, 0), (1, 0), (1, 0), (0, 0)])
        self.assertEqual(
            (played.trail, played.ended, play(self.site, self.seeing, [(0, 0), (0, 0)]).row),
            ((((0, 0), (0, 0)), ((1, 0), (2, 0)), ((2, 0), (4, 0)), ((4, 0), (4, 0))), "goal", 1),
        )

    def test_section_7(self):
        span = Span((0, 0), (-2, 2), (-9, 9)).sighted(-9, 9, 1)
        self.assertEqual(
            (span.belief, span.error, span.places_at(3), span.places_at(0), span.total, span.stepped(1, 0, 1).place),
            ((-3, 3), (-1, 1), (2, 2), (-1, 1), 15, (-1, 4)),
        )

    def test_section_9(self):
        site, blind, seeing = self.site, self.blind, self.seeing
        self.assertEqual(
            (str(ends(site, blind, "goal")), str(ends(site, seeing, "goal")), len(ends(site, seeing, "barred"))),
            ("4.0 5.0 6.0 7.0", "4.0 5.0", 0),
        )

    def test_section_10(self):
        flat, east = ((0, 0), (0, 0), (0, 0)), Plan.read("start 0 0 0\ngo east 2")
        paper = ((0, 0, flat, flat), (0, 1, ((1, 1), (1, 2), (0, 1)), flat))
        self.assertEqual(
            (certificate_holds(self.site, east, "barred", paper),
             certificate_holds(self.site, east, "barred", paper[:1]), certificate(self.site, self.blind, "barred")),
            (True, False, None),
        )
        self.assertEqual(play(self.site, east, [(0, 0), (1, 0)]).done, 1)

    def test_section_13(self):
        robot = Robot(self.site, self.seeing)
        self.assertEqual(
            (robot.step(), robot.row, robot.miss(), robot.step(), str(robot.cells())), (None, 2, None, None, "2.0 3.0 4.0"),
        )
        self.assertEqual(
            (robot.sight((3, 0)), robot.belief, str(robot.cells()), robot.row, robot.may("astray")),
            (None, (3, 0), "3.0", 1, False),
        )

    def test_section_14(self):
        desk = Desk()
        commands = [
            "site yard 8 1 ; slip 0 1 0 ; room goal 4 0 6 0", "plan start 0 0 0 ; go east 4 ; stop goal", "never barred",
            "ends goal", "widest ahead barred", "longest", "undo",
        ]
        self.assertEqual(
            [desk.say(command) for command in commands], ["1", "2", "no 5", "4.0 5.0 6.0 7.0", "0", "5", "undone"],
        )
        self.assertIsNone(desk.plan)

    def test_readme(self):
        readme = pathlib.Path(__file__).parent.parent / "README.md"
        result = doctest.testfile(str(readme), module_relative=False)
        self.assertEqual((result.failed, result.attempted > 0), (0, True))


if __name__ == "__main__":
    unittest.main()
