"""Plans and the numbers of their rows, point [9]."""

import unittest

from slipsights.errors import InvalidPlan, InvalidRow, NoRow
from slipsights.plans import Go, If, Plan, See, Stop, While
from slipsights.sites import Site
from tests import samples


class Other:
    """A class that says it equals everything."""

    def __eq__(self, other):
        return True


NUMBERED = [
    "start 1 -2 3",
    "go east 1",      # 0
    "if x < 1",       # 1
    "go east 2",      # 2
    "while y < 2",    # 3
    "go north 3",     # 4
    "see lamp",       # 5
    "go east 4",      # 6
    "else",
    "go east 5",      # 7
    "stop hall",      # 8
    "end",
    "go south 6",     # 9
    "end",
    "else",
    "see bell",       # 10
    "end",
    "go west 7",      # 11
    "end",
    "stop goal",      # 12
]
TEXT = "\n".join(NUMBERED)


def lines_without(*lines):
    """The text without the lines from and to these."""
    left = list(NUMBERED)
    for line in lines:
        left.remove(line)
    return "\n".join(left)


class PlanCase(unittest.TestCase):
    def refused(self, word, *arguments):
        with self.assertRaises(InvalidPlan, msg=arguments) as caught:
            Plan(*arguments)
        self.assertEqual(caught.exception.word, word, arguments)

    def no_row(self, call, at):
        with self.assertRaises(NoRow, msg=at) as caught:
            call(at)
        self.assertIs(caught.exception.at, at)


class TestPlan(PlanCase):
    def setUp(self):
        self.go, self.stop = Go("east", 3), Stop("hall")

    def test_attributes(self):
        plan = Plan((1, -2), 3, [self.go, self.stop])
        self.assertEqual((plan.start, plan.blur, plan.rows), ((1, -2), 3, (self.go, self.stop)))
        for kind in (list, tuple):
            self.assertIs(type(Plan((0, 0), 0, kind([self.go])).rows), tuple)

    def test_defaults_and_names(self):
        self.assertEqual(Plan((0, 0), 0).rows, ())
        self.assertEqual(Plan(rows=[self.go], blur=1, start=(2, 3)), Plan((2, 3), 1, [self.go]))
        self.assertEqual(Plan((0, 0), 0, [self.go]).without(at=0), Plan((0, 0), 0))

    def test_later_changes_have_no_effect(self):
        rows = [self.go]
        plan = Plan((0, 0), 0, rows)
        rows.append(self.stop)
        self.assertEqual((len(plan), plan.rows, str(plan)), (1, (self.go,), "start 0 0 0\ngo east 3"))
        self.assertEqual(rows, [self.go, self.stop])

    def test_start(self):
        for start in samples.CELLS:
            self.assertEqual(Plan(start, 0).start, start)
        for start in samples.NO_CELLS + samples.objects() + [samples.deep(0)]:
            self.refused("start", start, 0)

    def test_blur(self):
        for blur in (0, 1, 3, 10 ** 20):
            self.assertEqual(Plan((0, 0), blur).blur, blur)
        for blur in samples.NO_INTEGERS + [-1, -99] + samples.objects():
            self.refused("blur", (0, 0), blur)

    def test_rows(self):
        wrong = samples.NO_SEQUENCES + samples.objects()
        for rows in wrong + [["go east 3"], [self.go, None], [[self.go]], (self.go, 1), [Plan((0, 0), 0)]]:
            self.refused("rows", (0, 0), 0, rows)

    def test_first_wrong_argument(self):
        self.refused("start", None, None, None)
        self.refused("blur", (0, 0), None, None)
        self.refused("rows", (0, 0), 0, None)

    def test_text(self):
        self.assertEqual(str(Plan((0, 0), 0)), "start 0 0 0")
        self.assertEqual(str(Plan((-1, 22), 3, [self.go, self.stop])), "start -1 22 3\ngo east 3\nstop hall")

    def test_equality(self):
        plan = Plan((1, 2), 3, [self.go])
        self.assertTrue(plan == Plan((1, 2), 3, (Go("east", 3),)))
        self.assertFalse(plan != Plan((1, 2), 3, (Go("east", 3),)))
        for other in [
            Plan((0, 2), 3, [self.go]), Plan((1, 0), 3, [self.go]), Plan((1, 2), 0, [self.go]), Plan((1, 2), 3),
            Plan((1, 2), 3, [self.stop]), Plan((1, 2), 3, [self.go, self.go]),
        ]:
            self.assertIs(plan == other, False)
            self.assertIs(plan != other, True)

    def test_equal_to_nothing_of_another_class(self):
        plan = Plan((1, 1), 0)
        for other in samples.any_values() + [str(plan), Site((1, 1), (0, 0, 0)), Other()]:
            if not isinstance(other, Plan):
                self.assertIs(plan == other, False)

    def test_not_iterable(self):
        plan = Plan((0, 0), 0, [self.go])
        self.assertRaises(TypeError, iter, plan)
        self.assertRaises(TypeError, list, plan)
        with self.assertRaises(TypeError):
            self.go in plan


class TestNumbers(PlanCase):
    def setUp(self):
        self.plan = Plan.read(TEXT)

    def test_len(self):
        self.assertEqual(len(self.plan), 13)
        self.assertEqual(len(Plan((0, 0), 0)), 0)
        self.assertEqual(len(Plan((0, 0), 0, [Go("east", 9)])), 1)

    def test_numbers(self):
        firsts = [str(self.plan[at]).split("\n")[0] for at in range(13)]
        self.assertEqual(firsts, [line for line in NUMBERED[1:] if line not in ("else", "end")])
        self.assertIs(self.plan[3], self.plan.rows[1].rows[1])
        self.assertIs(self.plan[10], self.plan.rows[1].others[0])

    def test_the_same_row_twice(self):
        go = Go("east", 1)
        plan = Plan((0, 0), 0, [go, If("x < 5", [go], [go]), go])
        self.assertEqual([str(plan[at]).split("\n")[0] for at in range(5)], ["go east 1", "if x < 5"] + ["go east 1"] * 3)
        self.assertEqual(str(plan.without(3)), "start 0 0 0\ngo east 1\nif x < 5\ngo east 1\nend\ngo east 1")

    def test_no_row(self):
        for at in (-1, -13, 13, 14, 99, -99, 10 ** 30, -10 ** 30):
            self.no_row(self.plan.__getitem__, at)
            self.no_row(self.plan.without, at)
        self.no_row(Plan((0, 0), 0).__getitem__, 0)
        self.no_row(Plan((0, 0), 0).without, 0)

    def test_without(self):
        block = ["go east 4", "else", "go east 5", "stop hall", "end"]
        loop = ["while y < 2", "go north 3", "see lamp"] + block + ["go south 6", "end"]
        expected = {
            0: ("go east 1",), 2: ("go east 2",), 6: ("go east 4",), 7: ("go east 5",), 8: ("stop hall",),
            9: ("go south 6",), 11: ("go west 7",), 12: ("stop goal",),
        }
        for at, lines in expected.items():
            self.assertEqual(str(self.plan.without(at)), lines_without(*lines), at)
        self.assertEqual(str(self.plan.without(10)), TEXT.replace("\nsee bell\nend", ""))
        self.assertEqual(str(self.plan.without(5)), TEXT.replace("\n".join(["see lamp"] + block) + "\n", ""))
        self.assertEqual(str(self.plan.without(3)), TEXT.replace("\n".join(loop) + "\n", ""))
        self.assertEqual(str(self.plan.without(1)), "start 1 -2 3\ngo east 1\nstop goal")

    def test_without_leaves_the_plan(self):
        other = self.plan.without(0)
        self.assertEqual((str(self.plan), len(self.plan)), (TEXT, 13))
        self.assertEqual((other.start, other.blur, len(other), len(self.plan.without(1))), ((1, -2), 3, 12, 2))
        self.assertIs(type(other), Plan)

    def test_without_the_last_of_the_others(self):
        plan = Plan.read("start 0 0 0\nif x < 1\nelse\ngo east 1\nend\nsee a\ngo east 1\nelse\ngo east 2\nend")
        self.assertEqual(str(plan.without(1)).split("\n")[1:3], ["if x < 1", "end"])
        self.assertEqual(str(plan.without(4)).split("\n")[5:], ["see a", "go east 1", "end"])

    def test_without_the_first_go_of_a_while(self):
        for at, text in [
            (4, TEXT),
            (1, "start 0 0 0\nwhile x < 1\ngo east 1\nend"),
            (1, "start 0 0 0\nwhile x < 1\ngo east 1\nif x < 1\ngo east 1\nend\ngo east 1\nend"),
            (2, "start 0 0 0\nsee a\nelse\nwhile x < 1\ngo east 1\nstop b\nend\nend"),
            (3, "start 0 0 0\nsee a\nif x < 1\nwhile x < 1\ngo east 1\nend\nend\nend"),
        ]:
            with self.assertRaises(InvalidRow) as caught:
                Plan.read(text).without(at)
            self.assertEqual(caught.exception.word, "rows")
        plan = Plan.read("start 0 0 0\nwhile x < 1\ngo east 1\ngo west 2\nend")
        self.assertEqual(str(plan.without(1)), "start 0 0 0\nwhile x < 1\ngo west 2\nend")
        self.assertEqual(str(plan.without(2)), "start 0 0 0\nwhile x < 1\ngo east 1\nend")
        self.assertEqual(str(plan.without(0)), "start 0 0 0")


if __name__ == "__main__":
    unittest.main()
