"""The texts of plans, point [9]."""

import unittest

from slipsights.errors import InvalidText
from slipsights.plans import Go, If, Plan, See, Stop, While

GOOD = [
    "start 0 0 0",
    "start -5 99 3",
    "start 0 0 0\ngo east 1\ngo west 9\ngo north 5\ngo south 2",
    "start 0 0 0\nstop hall\nstop goal\ngo east 1",
    "start 0 0 0\nif x < 5\nend",
    "start 0 0 0\nif x >= -5\ngo east 1\nelse\ngo west 1\nend",
    "start 0 0 0\nif y < 5\nelse\nstop a\nend",
    "start 0 0 0\nsee lamp\nend\nsee lamp\nelse\nsee lamp\nend\nend",
    "start 0 0 0\nwhile y >= 0\ngo south 1\nend\ngo east 1",
    "start 0 0 0\nwhile x < 4\ngo east 1\nif x < 2\nwhile y < 3\ngo north 1\nsee a\nelse\nstop b\nend\nend\nend\nend",
    "start 0 0 0\nif x < 1\nif x < 2\nif x < 3\nelse\ngo east 1\nend\nend\nelse\ngo east 2\nend",
]


class TestPlanText(unittest.TestCase):
    def wrong(self, at, text):
        with self.assertRaises(InvalidText, msg=text) as caught:
            Plan.read(text)
        self.assertEqual(caught.exception.at, at, text)

    def wrong_line(self, line):
        """A line that is wrong wherever a row may stand."""
        for head in [
            "start 0 0 0", "start 0 0 0\ngo east 1", "start 0 0 0\nif x < 5", "start 0 0 0\nif x < 5\nelse",
            "start 0 0 0\nsee lamp\ngo east 1", "start 0 0 0\nwhile x < 5\ngo east 1", "start 0 0 0\nwhile x < 5",
        ]:
            at = len(head.split("\n"))
            self.wrong(at, head + "\n" + line)
            self.wrong(at, head + "\n" + line + "\ngo east 1\nend\nend")

    def test_plan_read(self):
        plan = Plan.read("start 1 -2 3\nwhile x < 4\ngo east 1\nsee lamp\nstop a\nelse\nif y >= 0\nend\nend\nend\nstop b")
        self.assertIs(type(plan), Plan)
        self.assertEqual((plan.start, plan.blur), ((1, -2), 3))
        see = See("lamp", [Stop("a")], [If("y >= 0", [])])
        self.assertEqual(plan.rows, (While("x < 4", [Go("east", 1), see]), Stop("b")))
        self.assertEqual((len(plan), plan[4].test), (6, "y >= 0"))

    def test_kinds_of_the_rows(self):
        plan = Plan.read(GOOD[9])
        kinds = [type(plan[at]) for at in range(len(plan))]
        self.assertEqual(kinds, [While, Go, If, While, Go, See, Stop])

    def test_read_back(self):
        for text in GOOD:
            self.assertEqual(str(Plan.read(text)), text)
            self.assertEqual(Plan.read(text), Plan.read(text=text))

    def test_first_line(self):
        for line in [
            "", "start", "start 0 0", "start 0 0 0 0", "start 0 0 -1", "start 0 0 -0", "start 00 0 0", "start 0 01 0",
            "start 0 0 00", "start  0 0 0", "start 0  0 0", " start 0 0 0", "start 0 0 0 ", "start x 0 0", "start 0 0 x",
            "Start 0 0 0", "starts 0 0 0", "go east 1", "yard 8 1", "end", "0 0 0", "start +1 0 0", "start 0 - 0",
        ]:
            self.wrong(0, line)
            self.wrong(0, line + "\ngo east 1")
            self.wrong(0, line + "\nnothing")

    def test_wrong_lines(self):
        for line in [
            "", " ", "go", "go east", "go east 0", "go east 10", "go east -1", "go east 01", "go east 1 1", "go  east 1",
            "go east  1", " go east 1", "go east 1 ", "go up 1", "go 1 east", "go East 1", "Go east 1", "go east x",
            "goeast 1", "go east 1.0", "go east -0", "go east +1", "stop", "stop Hall", "stop hall goal", "stop end",
            "stop barred", "stop ", "stop  hall", " stop hall", "stop hall ", "stop abcdefg", "stop hall\t", "if", "if x",
            "if x < 05", "if x > 5", "if x<5", "if x < 5 ", "if  x < 5", " if x < 5", "if x < 5 6", "if lamp", "if x < -0",
            "while", "while x", "while x <= 5", "while lamp", "while  x < 5", " while x < 5", "while x < 5 ", "see",
            "see Lamp", "see x < 5", "see lamp bell", "see go", "see ", "see  lamp", " see lamp", "see lamp ", "else x",
            "else ", " else", "end ", " end", "end x", "ends", "start 0 0 0", "x < 5", "lamp", "east 1", "elif x < 5",
            "room hall 0 0 1 1",
        ]:
            self.wrong_line(line)

    def test_lines_too_many(self):
        self.wrong(1, "start 0 0 0\n")
        self.wrong(2, "start 0 0 0\ngo east 1\n")
        self.wrong(1, "start 0 0 0\nend")
        self.wrong(2, "start 0 0 0\ngo east 1\nend")
        self.wrong(4, "start 0 0 0\nif x < 5\ngo east 1\nend\nend")
        self.wrong(1, "start 0 0 0\nelse")
        self.wrong(4, "start 0 0 0\nif x < 5\ngo east 1\nend\nelse\ngo east 1\nend")

    def test_else(self):
        self.wrong(4, "start 0 0 0\nif x < 5\ngo east 1\nelse\nelse\ngo east 1\nend")
        self.wrong(5, "start 0 0 0\nif x < 5\ngo east 1\nelse\ngo east 1\nelse\ngo east 1\nend")
        self.wrong(5, "start 0 0 0\nsee lamp\ngo east 1\nelse\ngo east 1\nelse\nend")
        self.wrong(3, "start 0 0 0\nwhile x < 5\ngo east 1\nelse\ngo east 1\nend")
        self.wrong(4, "start 0 0 0\nif x < 1\nwhile x < 5\ngo east 1\nelse\ngo east 1\nend\nend")

    def test_else_with_no_row_is_wrong_at_its_end(self):
        self.wrong(3, "start 0 0 0\nif x < 5\nelse\nend")
        self.wrong(4, "start 0 0 0\nif x < 5\ngo east 1\nelse\nend\ngo east 1")
        self.wrong(3, "start 0 0 0\nsee lamp\nelse\nend\nnothing")
        self.wrong(5, "start 0 0 0\nif x < 5\nelse\nsee lamp\nelse\nend\nend")

    def test_behind_while_comes_a_go(self):
        for line in ["end", "else", "if x < 5", "see lamp", "stop hall", "while x < 5", "", "nothing", "go", "go east 0"]:
            self.wrong(2, "start 0 0 0\nwhile x < 5\n" + line)
            self.wrong(2, "start 0 0 0\nwhile x < 5\n" + line + "\ngo east 1\nend\nend")
            self.wrong(3, "start 0 0 0\nif x < 5\nwhile x < 5\n" + line + "\ngo east 1\nend\nend")

    def test_text_that_ends_too_early(self):
        self.wrong(2, "start 0 0 0\nif x < 5")
        self.wrong(2, "start 0 0 0\nwhile x < 5")
        self.wrong(2, "start 0 0 0\nsee lamp")
        self.wrong(3, "start 0 0 0\nif x < 5\nelse")
        self.wrong(3, "start 0 0 0\nwhile x < 5\ngo east 1")
        self.wrong(5, "start 0 0 0\nif x < 5\nsee lamp\ngo east 1\nend")
        self.wrong(6, "start 0 0 0\nif x < 5\nsee lamp\nelse\ngo east 1\nend")

    def test_each_beginning_of_a_text(self):
        lines = GOOD[9].split("\n")
        for many in range(2, len(lines)):
            self.wrong(many, "\n".join(lines[:many]))

    def test_first_of_several_wrong_lines(self):
        self.wrong(0, "start\ngo\nend")
        self.wrong(1, "start 0 0 0\ngo\nend")
        self.wrong(2, "start 0 0 0\nif x < 5\ngo\nend\nend")

    def test_a_long_text(self):
        text = "start 0 0 0\n" + "see a\n" * 100 + "end\n" * 100
        self.wrong(201, text)
        self.assertEqual(len(Plan.read(text[:-1])), 100)
        self.wrong(200, text[:-5])


if __name__ == "__main__":
    unittest.main()
