"""The examples at the end of sections 5 and 6, with the site and the plans of section 1."""

import doctest
import pathlib
import unittest

from slipsights.plans import Plan
from slipsights.runs import play
from slipsights.sites import Site


class TestExamples(unittest.TestCase):
    def setUp(self):
        self.site = Site.read("yard 8 1\nslip 0 1 0\nroom goal 4 0 7 0\nmark lamp 3 0 5 0 0")
        self.blind = Plan.read("start 0 0 0\ngo east 4\nstop goal")
        self.seeing = Plan.read("start 0 0 0\nwhile x < 4\ngo east 1\nsee lamp\nend\nend\nstop goal")

    def test_section_1(self):
        played = play(self.site, self.blind, ((0, 0), (1, 0), (1, 0), (1, 0), (1, 0)))
        self.assertEqual((played.ended, played.place, played.faults), ("barred", (8, 0), ("barred",)))
        self.assertEqual(play(self.site, self.seeing, ((0, 0), (1, 0), (1, 0))).row, 2)

    def test_section_5(self):
        site, seeing = self.site, self.seeing
        self.assertEqual(
            (site.is_barred((8, 0)), site.room_of("goal").high, str(site).split("\n")[1], len(seeing),
             str(seeing.without(2)).split("\n")[1:4]),
            (True, (7, 0), "slip 0 1 0", 4, ["while x < 4", "go east 1", "end"]),
        )

    def test_section_6(self):
        played = play(self.site, self.seeing, [(0, 0), (1, 0), (1, 0), (0, 0)])
        self.assertEqual(
            (played.trail, played.ended, play(self.site, self.seeing, [(0, 0), (0, 0)]).row),
            ((((0, 0), (0, 0)), ((1, 0), (2, 0)), ((2, 0), (4, 0)), ((4, 0), (4, 0))), "goal", 1),
        )

    def test_section_10(self):
        plan = Plan.read("start 0 0 0\ngo east 2")
        self.assertEqual(play(self.site, plan, [(0, 0), (1, 0)]).done, 1)

    def test_readme(self):
        readme = pathlib.Path(__file__).parent.parent / "README.md"
        result = doctest.testfile(str(readme), module_relative=False)
        self.assertEqual((result.failed, result.attempted > 0), (0, True))


if __name__ == "__main__":
    unittest.main()
