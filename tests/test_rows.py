"""The rows of plans, point [8]."""

import unittest

from slipsights.errors import InvalidRow
from slipsights.plans import Go, If, Row, See, Stop, While
from tests import samples

TESTS = ["x < 5", "x >= 5", "y < 0", "y >= -3", "x < -99", "y >= 99", "x < 10", "x >= 100"]
NO_TESTS = [
    "x > 5", "x <= 5", "x == 5", "z < 5", "X < 5", "x<5", "x < 05", "x < -0", "x < 00", "x < -05", "x < +5", "x  < 5",
    "x <  5", " x < 5", "x < 5 ", "x < 5\n", "x < y", "5 < x", "x <", "< 5", "x", "", "x < ", "x < -", "x < --5",
    "x < 5 6", "x < 5.0", "x\t<\t5", "x < \u0663", "x < 5\u00b2", "if x < 5", "y = 5", "xy < 5", "x >=5", "x < 1_0",
]
WAYS = ["east", "west", "north", "south"]
NO_WAYS = ["East", "up", "", "eas", "easts", " east", "east ", "n", "northeast", "stop", "x"]


class Other:
    """A class that says it equals everything."""

    def __eq__(self, other):
        return True


class RowCase(unittest.TestCase):
    def setUp(self):
        self.go = Go("east", 3)
        self.stop = Stop("hall")

    def refused(self, word, call, *arguments):
        with self.assertRaises(InvalidRow, msg=arguments) as caught:
            call(*arguments)
        self.assertEqual(caught.exception.word, word, arguments)

    def wrong_rows(self):
        """Things that are no sequences of rows."""
        wrong = samples.NO_SEQUENCES + samples.objects() + [self.go, "go east 3"]
        return wrong + [["go east 3"], [self.go, None], (self.go, [self.go]), [None], ((self.go,),)]


class TestGoAndStop(RowCase):
    def test_go(self):
        for way in WAYS:
            for steps in range(1, 10):
                row = Go(way, steps)
                self.assertEqual((row.way, row.steps, str(row)), (way, steps, f"go {way} {steps}"))

    def test_ways(self):
        for way in NO_WAYS + samples.any_values():
            self.refused("way", Go, way, 1)

    def test_steps(self):
        for steps in samples.NO_INTEGERS + [0, -1, 10, 99, -9, 10 ** 20] + samples.objects():
            self.refused("steps", Go, "east", steps)

    def test_way_comes_first(self):
        self.refused("way", Go, "up", 0)

    def test_stop(self):
        for name in samples.NAMES:
            row = Stop(name)
            self.assertEqual((row.room, str(row)), (name, f"stop {name}"))
        for name in samples.NO_NAMES + samples.objects():
            self.refused("room", Stop, name)

    def test_by_name(self):
        self.assertEqual(Go(steps=2, way="north"), Go("north", 2))
        self.assertEqual(Stop(room="hall"), Stop("hall"))


class TestBlocks(RowCase):
    def test_attributes(self):
        row = If("x < 5", [self.go], [self.stop])
        self.assertEqual((row.test, row.rows, row.others), ("x < 5", (self.go,), (self.stop,)))
        row = While("y >= -3", [self.go, self.stop])
        self.assertEqual((row.test, row.rows), ("y >= -3", (self.go, self.stop)))
        row = See("lamp", [self.go], [self.stop])
        self.assertEqual((row.mark, row.rows, row.others), ("lamp", (self.go,), (self.stop,)))

    def test_defaults(self):
        self.assertEqual(If("x < 5", [self.go]).others, ())
        self.assertEqual(See("lamp", [self.go]).others, ())

    def test_rows_may_be_none(self):
        self.assertEqual((If("x < 5", ()).rows, See("lamp", []).rows), ((), ()))

    def test_by_name(self):
        self.assertEqual(If(others=[self.stop], rows=[self.go], test="x < 5"), If("x < 5", [self.go], [self.stop]))
        self.assertEqual(While(rows=[self.go], test="x < 5"), While("x < 5", [self.go]))
        self.assertEqual(See(others=[self.stop], rows=[self.go], mark="a"), See("a", [self.go], [self.stop]))

    def test_sequences_are_tuples(self):
        for kind in (list, tuple):
            rows, others = kind([self.go]), kind([self.stop])
            for row in (If("x < 5", rows, others), See("lamp", rows, others)):
                self.assertIs(type(row.rows), tuple)
                self.assertIs(type(row.others), tuple)
            self.assertIs(type(While("x < 5", rows).rows), tuple)

    def test_later_changes_have_no_effect(self):
        rows, others = [self.go], [self.stop]
        made = [If("x < 5", rows, others), See("lamp", rows, others), While("x < 5", rows)]
        texts = [str(row) for row in made]
        rows.append(self.stop)
        others.clear()
        self.assertEqual([str(row) for row in made], texts)
        self.assertEqual([row.rows for row in made], [(self.go,)] * 3)
        self.assertEqual([row.others for row in made[:2]], [(self.stop,)] * 2)
        self.assertEqual((rows, others), ([self.go, self.stop], []))

    def test_tests(self):
        for test in TESTS:
            self.assertEqual(If(test, []).test, test)
            self.assertEqual(While(test, [self.go]).test, test)
        for test in NO_TESTS + samples.any_values():
            self.refused("test", If, test, [])
            self.refused("test", While, test, [self.go])

    def test_marks(self):
        for name in samples.NAMES:
            self.assertEqual(See(name, []).mark, name)
        for name in samples.NO_NAMES + samples.objects():
            self.refused("mark", See, name, [])

    def test_rows_and_others(self):
        for rows in self.wrong_rows():
            self.refused("rows", If, "x < 5", rows)
            self.refused("rows", While, "x < 5", rows)
            self.refused("rows", See, "lamp", rows)
            self.refused("others", If, "x < 5", [self.go], rows)
            self.refused("others", See, "lamp", [self.go], rows)

    def test_while_begins_with_a_go(self):
        block = If("x < 5", [self.go])
        for rows in ([], (), [self.stop], [block], [See("lamp", [self.go])], [While("x < 5", [self.go])], (self.stop, self.go)):
            self.refused("rows", While, "x < 5", rows)
        self.assertEqual(len(While("x < 5", (self.go, block)).rows), 2)

    def test_first_wrong_argument(self):
        self.refused("test", If, "x", None, None)
        self.refused("rows", If, "x < 5", None, None)
        self.refused("others", If, "x < 5", [], None)
        self.refused("test", While, "x", None)
        self.refused("mark", See, "x y", None, None)
        self.refused("rows", See, "x", None, None)
        self.refused("others", See, "x", [], None)

    def test_texts(self):
        go, stop = self.go, self.stop
        self.assertEqual(str(If("x < 5", [go])), "if x < 5\ngo east 3\nend")
        self.assertEqual(str(If("x < 5", [])), "if x < 5\nend")
        self.assertEqual(str(If("x < 5", [go], [stop])), "if x < 5\ngo east 3\nelse\nstop hall\nend")
        self.assertEqual(str(If("x < 5", [], [stop, go])), "if x < 5\nelse\nstop hall\ngo east 3\nend")
        self.assertEqual(str(While("y >= 0", [go, stop])), "while y >= 0\ngo east 3\nstop hall\nend")
        self.assertEqual(str(See("lamp", [go])), "see lamp\ngo east 3\nend")
        self.assertEqual(str(See("lamp", [], [go])), "see lamp\nelse\ngo east 3\nend")
        nested = If("x < 5", [While("y < 1", [go, See("lamp", [stop], [go])])], [If("x < 1", [])])
        self.assertEqual(str(nested).split("\n"), [
            "if x < 5", "while y < 1", "go east 3", "see lamp", "stop hall", "else", "go east 3", "end", "end",
            "else", "if x < 1", "end", "end",
        ])


class TestAllRows(RowCase):
    def rows(self):
        go, stop = self.go, self.stop
        return [
            go, Go("west", 3), Go("east", 2), stop, Stop("goal"), If("x < 5", []), If("x < 6", []), If("x < 5", [go]),
            If("x < 5", [], [go]), If("x < 5", [go], [stop]), While("x < 5", [go]), While("x < 5", [go, go]),
            While("x >= 5", [go]), See("lamp", []), See("bell", []), See("lamp", [go]), See("lamp", [], [go]),
        ]

    def test_all_are_rows(self):
        for row in self.rows():
            self.assertIsInstance(row, Row)
        for kind in (Go, If, While, See, Stop):
            self.assertEqual([one for one in (Go, If, While, See, Stop) if issubclass(kind, one)], [kind])

    def test_equal_if_the_texts_are(self):
        for at, row in enumerate(self.rows()):
            for k, other in enumerate(self.rows()):
                self.assertIs(row == other, at == k, (str(row), str(other)))
                self.assertIs(row != other, at != k)

    def test_equal_to_nothing_of_another_class(self):
        for row in self.rows():
            for other in samples.any_values() + [str(row), Other()]:
                if not isinstance(other, Row):
                    self.assertIs(row == other, False)

    def test_not_iterable(self):
        for row in self.rows():
            self.assertRaises(TypeError, iter, row)


if __name__ == "__main__":
    unittest.main()
