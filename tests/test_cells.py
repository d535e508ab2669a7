"""Sets of cells and the places where runs end and wait, points [17] and [18]."""

import operator
import random
import unittest

from slipsights.cells import Cells, ends, stands
from slipsights.errors import InvalidCells, Mismatch, NoRow
from slipsights.plans import Plan
from slipsights.sites import Site
from tests import samples

BIG = 10 ** 24 + 7


def drawn(many, seed, reach=3):
    """So many drawn sets, each as `Cells` and as a set."""
    draw = random.Random(seed)
    for _ in range(many):
        cells = [(draw.randint(-reach, reach), draw.randint(-reach, reach)) for _ in range(draw.randint(0, 12))]
        yield Cells(cells), set(cells)


class CellsCase(unittest.TestCase):
    def same(self, cells, expected):
        self.assertIsInstance(cells, Cells)
        self.assertEqual(cells.members, tuple(sorted(expected)))
        self.assertIs(type(cells.members), tuple)
        self.assertEqual(len(cells), len(expected))
        self.assertIs(bool(cells), len(expected) > 0)


class TestMaking(CellsCase):
    def test_members(self):
        self.same(Cells(), set())
        self.same(Cells([]), set())
        self.same(Cells(()), set())
        self.same(Cells([(2, 1), (0, 5), (0, -1), (-3, 7)]), {(-3, 7), (0, -1), (0, 5), (2, 1)})
        self.same(Cells(cells=((BIG, -BIG), (-BIG, BIG))), {(BIG, -BIG), (-BIG, BIG)})

    def test_cells_twice(self):
        self.same(Cells([(1, 1), (0, 0), (1, 1), (1, 1)]), {(0, 0), (1, 1)})

    def test_no_sequence(self):
        for value in samples.NO_SEQUENCES + samples.objects() + [{(0, 0)}, {(0, 0): 1}, Cells([(0, 0)])]:
            with self.assertRaises(InvalidCells) as caught:
                Cells(value)
            self.assertEqual(caught.exception.at, 0)

    def test_first_thing_that_is_no_cell(self):
        for value in samples.any_values():
            if samples.is_pair(value):
                Cells([value])
                continue
            for at, cells in enumerate([[value], [(0, 0), value, None], ((0, 0), (0, 0), value), [(0, 0)] * 3 + [value] * 2]):
                with self.assertRaises(InvalidCells) as caught:
                    Cells(cells)
                self.assertEqual(caught.exception.at, at)

    def test_later_changes_of_the_list(self):
        cells = [(0, 0), (3, 3), (0, 0)]
        made = Cells(cells)
        self.assertEqual(cells, [(0, 0), (3, 3), (0, 0)])
        cells.append((1, 1))
        cells[0] = None
        self.same(made, {(0, 0), (3, 3)})

    def test_members_cannot_be_assigned(self):
        with self.assertRaises(AttributeError):
            Cells().members = ()


class TestSets(CellsCase):
    def test_members_by_in(self):
        cells = Cells(samples.CELLS)
        for value in samples.any_values():
            self.assertIs(value in cells, samples.is_pair(value), value)
            self.assertIs(value in Cells(), False)
        self.assertNotIn((True, 1), Cells([(1, 1)]))
        self.assertNotIn((1, 2), Cells([(2, 1)]))

    def test_signs(self):
        for (p, first), (q, second) in zip(drawn(400, 1), drawn(400, 2)):
            self.same(p & q, first & second)
            self.same(p | q, first | second)
            self.same(p - q, first - second)
            self.same(p ^ q, first ^ second)
            self.same(p, first)
            self.same(q, second)

    def test_in_place(self):
        for (p, first), (q, second) in zip(drawn(100, 3), drawn(100, 4)):
            r, s, t, u = p, p, p, p
            r &= q
            s |= q
            t -= q
            u ^= q
            for one, expected in [(r, first & second), (s, first | second), (t, first - second), (u, first ^ second)]:
                self.same(one, expected)
                self.assertIsNot(one, p)
            self.same(p, first)
            self.same(q, second)

    def test_comparisons(self):
        for (p, first), (q, second) in zip(drawn(400, 5, 1), drawn(400, 6, 1)):
            for r, third in [(q, second), (p & q, first & second), (p | q, first | second), (p, first)]:
                self.assertIs(p <= r, first <= third)
                self.assertIs(p < r, first < third)
                self.assertIs(p >= r, first >= third)
                self.assertIs(p > r, first > third)
                self.assertIs(p == r, first == third)
                self.assertIs(p != r, first != third)

    def test_equal_to_nothing_of_another_class(self):
        for cells in (Cells(), Cells([(0, 0)])):
            for value in samples.any_values() + [cells.members, list(cells.members), set(cells.members), str(cells)]:
                if not isinstance(value, Cells):
                    self.assertIs(cells == value, False)
                    self.assertIs(value == cells, False)

    def test_signs_with_another_class(self):
        signs = (operator.and_, operator.or_, operator.sub, operator.xor, operator.le, operator.lt, operator.ge, operator.gt)
        for cells in (Cells(), Cells([(0, 0)])):
            for value in (None, 5, "", (0, 0), [(0, 0)], ((0, 0),)):
                for sign in signs:
                    self.assertRaises(TypeError, sign, cells, value)
                    self.assertRaises(TypeError, sign, value, cells)

    def test_not_iterable(self):
        for cells in (Cells(), Cells([(0, 0)])):
            for use in (iter, list, tuple, sorted, set, reversed):
                self.assertRaises(TypeError, use, cells)

    def test_text(self):
        self.assertEqual(str(Cells()), "none")
        self.assertEqual(str(Cells([(0, 0)])), "0.0")
        self.assertEqual(str(Cells([(10, 2), (-3, -4), (2, 10), (10, -2)])), "-3.-4 2.10 10.-2 10.2")
        self.assertEqual(str(Cells([(BIG, 0)])), f"{BIG}.0")


class TestGrown(CellsCase):
    def test_drawn(self):
        draw = random.Random(7)
        for cells, members in drawn(400, 8):
            low = draw.randint(-4, 4), draw.randint(-4, 4)
            high = low[0] + draw.randint(-1, 4), low[1] + draw.randint(-1, 4)
            more = [(x, y) for x in range(low[0], high[0] + 1) for y in range(low[1], high[1] + 1)]
            expected = {(x + a, y + b) for x, y in members for a, b in more}
            self.same(cells.grown(low, high), expected)
            self.same(cells, members)

    def test_edges(self):
        cells = Cells([(0, 0), (5, 5)])
        self.assertEqual(cells.grown((0, 0), (0, 0)), cells)
        self.same(cells.grown(low=(-BIG, 1), high=(-BIG, 2)), {(-BIG, 1), (-BIG, 2), (5 - BIG, 6), (5 - BIG, 7)})
        self.same(cells.grown((1, 0), (0, 9)), set())
        self.same(cells.grown((0, 1), (9, 0)), set())
        self.same(Cells().grown((-9, -9), (9, 9)), set())

    def test_many_cells(self):
        cells = Cells([(x, y) for x in range(60) for y in range(40)])
        grown = cells.grown((-30, -20), (30, 20))
        self.assertEqual((len(grown), grown.members[0], grown.members[-1]), (120 * 80, (-30, -20), (89, 59)))


class TestEndsAndStands(CellsCase):
    def setUp(self):
        self.site = Site.read(
            "yard 6 3\nslip 0 1 0\nroom goal 4 0 5 2\nroom spare 0 0 0 0\nbarred pit 2 1 2 1\nmark lamp 3 0 5 2 0"
        )

    def ends(self, rows, word):
        return ends(self.site, Plan.read(rows.replace(" ; ", "\n")), word).members

    def stands(self, rows, at):
        return stands(self.site, Plan.read(rows.replace(" ; ", "\n")), at).members

    def test_ends_with_a_room(self):
        rows = "start 1 0 0 ; go east 2 ; see lamp ; stop goal ; else ; stop spare ; end"
        self.assertEqual(self.ends(rows, "goal"), ((3, 0), (4, 0), (5, 0)))
        self.assertEqual(self.ends(rows, "spare"), ())
        rows = "start 0 0 0 ; go east 2 ; see lamp ; stop goal ; else ; stop spare ; end"
        self.assertEqual(self.ends(rows, "goal"), ((3, 0), (4, 0)))
        self.assertEqual(self.ends(rows, "spare"), ((2, 0),))

    def test_ends_barred(self):
        self.assertEqual(self.ends("start 0 1 0 ; go east 2", "barred"), ((2, 1),))
        self.assertEqual(self.ends("start 0 1 0 ; go east 2", "end"), ((3, 1),))
        self.assertEqual(self.ends("start 4 0 0 ; go east 1", "barred"), ((6, 0),))
        self.assertEqual(self.ends("start 0 0 1", "barred"), ((-1, -1), (-1, 0), (-1, 1), (0, -1), (1, -1)))
        self.assertEqual(self.ends("start 2 1 0 ; go east 1", "barred"), ((2, 1),))
        self.assertEqual(self.ends("start 2 1 0 ; go east 1", "end"), ())

    def test_ends_halted(self):
        self.assertEqual(self.ends("start 5 2 0 ; go north 1 ; go south 1", "halted"), ((5, 2),))
        self.assertEqual(self.ends("start 4 2 0 ; go east 2", "halted"), ((5, 2),))
        self.assertEqual(self.ends("start 4 2 0 ; go east 2", "end"), ())

    def test_words_that_are_none(self):
        rows = "start 1 0 0 ; go east 2 ; stop goal"
        for word in ("", "pit", "spare", "lamp", "x", "astray", "endless", "never", "Goal", "goal ", "None", "start"):
            self.assertEqual(self.ends(rows, word), (), word)

    def test_stands(self):
        rows = "start 0 0 0 ; go east 2 ; see lamp ; go west 1 ; else ; go north 1 ; end ; if x < 99 ; end ; stop goal"
        self.assertEqual(self.stands(rows, 0), ((0, 0), (1, 0), (2, 0)))
        self.assertEqual(self.stands(rows, 1), ((3, 0), (4, 0)))
        self.assertEqual(self.stands(rows, 2), ((3, 0), (4, 0)))
        self.assertEqual(self.stands(rows, 3), ((2, 0),))
        self.assertEqual(self.stands(rows, 4), ())
        self.assertEqual(self.stands(rows, 5), ())

    def test_numbers_of_rows_that_are_none(self):
        for rows, many in [("start 0 0 0 ; go east 2 ; if x < 1 ; go west 1 ; end", 3), ("start 0 0 0", 0)]:
            plan = Plan.read(rows.replace(" ; ", "\n"))
            for at in (-1, many, many + 1, -many - 1, BIG, -BIG):
                with self.assertRaises(NoRow) as caught:
                    stands(self.site, plan, at)
                self.assertEqual(caught.exception.at, at)

    def test_mismatch(self):
        for rows, name in [
            ("start 6 0 0", "start"), ("start 0 3 0 ; stop none", "start"), ("start 0 -1 0", "start"),
            ("start 0 0 0 ; stop none", "none"), ("start 0 0 0 ; see goal ; end", "goal"),
            ("start 0 0 0 ; stop lamp ; stop none", "lamp"),
        ]:
            plan = Plan.read(rows.replace(" ; ", "\n"))
            for call in (lambda: ends(self.site, plan, "x"), lambda: stands(self.site, plan, 99), lambda: stands(self.site, plan, -1)):
                with self.assertRaises(Mismatch) as caught:
                    call()
                self.assertEqual(caught.exception.name, name)

    def test_by_name(self):
        plan = Plan.read("start 0 0 0\ngo east 1")
        self.assertEqual(ends(word="end", plan=plan, site=self.site), Cells([(1, 0), (2, 0)]))
        self.assertEqual(stands(at=0, plan=plan, site=self.site), Cells([(0, 0)]))


if __name__ == "__main__":
    unittest.main()
