"""Spans, points [13] and [14], compared with plain sets of pairs."""

import operator
import random
import unittest

from slipsights.errors import InvalidSpan
from slipsights.spans import Span
from tests import samples

BIG = 10 ** 24 + 7
EMPTY = [
    Span((1, 0), (0, 0), (0, 0)), Span((0, 0), (1, 0), (0, 0)), Span((0, 0), (0, 0), (1, 0)),
    Span((0, 0), (0, 0), (1, 1)), Span((0, 3), (0, 3), (4, 9)), Span((0, 3), (0, 3), (-9, -4)),
    Span((BIG, -BIG), (-BIG, BIG), (-BIG, BIG)),
]


def pairs_within(belief, place, error):
    """The set that point [13] tells."""
    return {
        (b, t) for b in range(belief[0], belief[1] + 1) for t in range(place[0], place[1] + 1)
        if error[0] <= t - b <= error[1]
    }


def pairs_in(span, reach=16):
    """The pairs that a span says it has, of all that are near."""
    near = range(-reach, reach + 1)
    return {(b, t) for b in near for t in near if (b, t) in span}


def drawn_bounds(draw, reach=5):
    bounds = [(draw.randint(-reach, reach), draw.randint(-reach, reach)) for _ in range(3)]
    return [(min(one), max(one)) if draw.random() < 0.9 else one for one in bounds]


def drawn(many, seed):
    """So many drawn spans, each with the set of its pairs."""
    draw = random.Random(seed)
    for _ in range(many):
        bounds = drawn_bounds(draw)
        yield Span(*bounds), pairs_within(*bounds)


class SpanCase(unittest.TestCase):
    def same(self, span, pairs):
        """A span has just these pairs; its other attributes say so too."""
        self.assertIsInstance(span, Span)
        self.assertEqual(span.total, len(pairs))
        self.assertEqual({pair for pair in pairs if pair in span}, pairs)
        self.assertEqual(bool(span), len(pairs) > 0)
        bounds = (None, None, None)
        if pairs:
            columns = [b for b, _ in pairs], [t for _, t in pairs], [t - b for b, t in pairs]
            bounds = tuple((min(column), max(column)) for column in columns)
        self.assertEqual((span.belief, span.place, span.error), bounds)


class TestBounds(SpanCase):
    def test_drawn(self):
        for span, pairs in drawn(500, 1):
            self.same(span, pairs)
            self.assertEqual(pairs_in(span), pairs)

    def test_one_pair(self):
        span = Span((3, 3), (5, 5), (2, 2))
        self.same(span, {(3, 5)})
        self.same(Span((3, 3), (5, 5), (-99, 99)), {(3, 5)})
        self.same(Span((3, 3), (-99, 99), (2, 2)), {(3, 5)})
        self.same(Span((-99, 99), (5, 5), (2, 2)), {(3, 5)})

    def test_tight(self):
        span = Span((0, 9), (2, 4), (-1, 1))
        self.assertEqual((span.belief, span.place, span.error), ((1, 5), (2, 4), (-1, 1)))
        span = Span((0, 2), (-99, 99), (1, 3))
        self.assertEqual((span.belief, span.place, span.error), ((0, 2), (1, 5), (1, 3)))
        span = Span((0, 2), (4, 5), (-99, 99))
        self.assertEqual((span.belief, span.place, span.error), ((0, 2), (4, 5), (2, 5)))

    def test_empty(self):
        for span in EMPTY:
            self.same(span, set())
            self.assertIs(bool(span), False)
            self.assertNotIn((0, 0), span)

    def test_kinds(self):
        span = Span((0, 1), (0, 1), (0, 1))
        for bounds in (span.belief, span.place, span.error):
            self.assertIs(type(bounds), tuple)
        self.assertIs(bool(span), True)
        self.assertIs(type(span.total), int)

    def test_many_digits(self):
        span = Span((-BIG, BIG), (BIG, 3 * BIG), (0, 9 * BIG))
        self.assertEqual((span.belief, span.place, span.error), ((-BIG, BIG), (BIG, 3 * BIG), (0, 4 * BIG)))
        self.assertEqual(span.total, (2 * BIG + 1) ** 2)
        self.assertIn((BIG, BIG), span)
        self.assertNotIn((BIG, BIG - 1), span)
        span = Span((0, BIG), (0, BIG), (0, BIG))
        self.assertEqual(span.total, (BIG + 1) * (BIG + 2) // 2)
        span = Span((0, BIG), (0, BIG), (-3, 5))
        self.assertEqual(span.total, 9 * (BIG + 1) - (1 + 2 + 3) - (1 + 2 + 3 + 4 + 5))
        self.assertEqual(Span((BIG, BIG), (-BIG, -BIG), (-9 * BIG, 9 * BIG)).error, (-2 * BIG, -2 * BIG))

    def test_by_name(self):
        self.assertEqual(Span(error=(-1, 1), place=(0, 5), belief=(1, 2)), Span((1, 2), (0, 5), (-1, 1)))


class TestWrongBounds(unittest.TestCase):
    def wrong(self, word, *bounds):
        with self.assertRaises(InvalidSpan) as caught:
            Span(*bounds)
        self.assertEqual(caught.exception.word, word)

    def test_any_value(self):
        fine = (0, 1)
        for value in samples.any_values():
            if samples.is_pair(value):
                continue
            self.wrong("belief", value, fine, fine)
            self.wrong("place", fine, value, fine)
            self.wrong("error", fine, fine, value)

    def test_first_wrong_one(self):
        for value in (None, [0, 1], (0, True), (0, 1, 2)):
            self.wrong("belief", value, value, value)
            self.wrong("place", (0, 1), value, value)

    def test_bounds_the_wrong_way_about_are_none(self):
        for bounds in samples.CELLS:
            Span(bounds, bounds, bounds)


class TestMembers(unittest.TestCase):
    def test_any_value(self):
        span = Span((-BIG, BIG), (-BIG, BIG), (-BIG, BIG))
        for value in samples.any_values():
            self.assertIs(value in span, samples.is_pair(value), value)
            for empty in EMPTY:
                self.assertIs(value in empty, False)

    def test_bools_are_no_integers(self):
        span = Span((0, 1), (0, 1), (-1, 1))
        self.assertIn((0, 1), span)
        for pair in [(False, 1), (0, True), (True, True), [0, 1], (0, 1, 1), (0,)]:
            self.assertNotIn(pair, span)


class TestSets(SpanCase):
    def test_common_pairs(self):
        for (p, first), (q, second) in zip(drawn(400, 2), drawn(400, 3)):
            self.same(p & q, first & second)
            self.same(q & p, first & second)

    def test_common_pairs_leave_the_spans_alone(self):
        p, q = Span((0, 5), (0, 5), (-1, 1)), Span((3, 9), (0, 9), (0, 0))
        r = p
        r &= q
        self.same(r, pairs_within((3, 5), (3, 5), (0, 0)))
        self.same(p, pairs_within((0, 5), (0, 5), (-1, 1)))
        self.assertIsNot(p, r)

    def test_comparisons(self):
        for (p, first), (q, second) in zip(drawn(600, 4), drawn(600, 5)):
            self.compare(p, q, first, second)
            self.compare(p, p & q, first, first & second)
            self.compare(p & q, q, first & second, second)
            self.compare(p, p, first, first)

    def compare(self, p, q, first, second):
        self.assertIs(p <= q, first <= second)
        self.assertIs(p < q, first < second)
        self.assertIs(p >= q, first >= second)
        self.assertIs(p > q, first > second)
        self.assertIs(p == q, first == second)
        self.assertIs(p != q, first != second)

    def test_equal_sets_by_other_bounds(self):
        self.assertEqual(Span((0, 9), (2, 4), (-1, 1)), Span((1, 5), (2, 4), (-5, 1)) & Span((0, 9), (0, 9), (-1, 9)))
        for p in EMPTY:
            for q in EMPTY:
                self.compare(p, q, set(), set())
            self.assertTrue(p < Span((0, 0), (0, 0), (0, 0)))

    def test_equal_to_nothing_of_another_class(self):
        for span in (Span((0, 0), (0, 0), (0, 0)), EMPTY[0]):
            for value in samples.any_values() + [(span.belief, span.place, span.error), {(0, 0)}, set()]:
                if not isinstance(value, Span):
                    self.assertIs(span == value, False)
                    self.assertIs(value == span, False)

    def test_not_iterable(self):
        for span in (Span((0, 1), (0, 1), (0, 1)), EMPTY[0]):
            for use in (iter, list, tuple, sorted, set):
                self.assertRaises(TypeError, use, span)

    def test_signs_with_another_class(self):
        for span in (Span((0, 1), (0, 1), (0, 1)), EMPTY[0]):
            for value in (None, 5, "", (0, 0), [span], {(0, 0)}):
                for sign in (operator.and_, operator.le, operator.lt, operator.ge, operator.gt):
                    self.assertRaises(TypeError, sign, span, value)
                    self.assertRaises(TypeError, sign, value, span)

    def test_less(self):
        for (p, first), (q, second) in zip(drawn(500, 6), drawn(500, 7)):
            pieces = p.less(q)
            self.assertIs(type(pieces), tuple)
            self.assertTrue(all(pieces))
            self.assertEqual(sum(piece.total for piece in pieces), len(first - second))
            self.assertEqual({pair for pair in first if any(pair in piece for piece in pieces)}, first - second)

    def test_less_edges(self):
        one = Span((0, 4), (0, 4), (-2, 2))
        self.assertEqual(one.less(one), ())
        for empty in EMPTY:
            self.assertEqual(empty.less(one), ())
            self.assertEqual(empty.less(empty), ())
            self.assertEqual(sum(piece.total for piece in one.less(empty)), one.total)
        self.assertEqual(one.less(Span((-9, 9), (-9, 9), (-9, 9))), ())
        self.assertEqual(sum(piece.total for piece in one.less(Span((8, 9), (0, 9), (-9, 9)))), one.total)

    def test_less_with_many_digits(self):
        wide = Span((-BIG, BIG), (-BIG, BIG), (-2 * BIG, 2 * BIG))
        hole = Span((-BIG // 2, 5), (3, BIG // 3), (-7, BIG))
        pieces = wide.less(hole)
        self.assertEqual(sum(piece.total for piece in pieces), wide.total - hole.total)
        for k, piece in enumerate(pieces):
            self.assertFalse(piece & hole)
            self.assertTrue(piece <= wide)
            self.assertFalse(any(piece & other for other in pieces[k + 1:]))


class TestMoves(SpanCase):
    def test_stepped(self):
        draw = random.Random(8)
        for span, pairs in drawn(500, 9):
            by, low = draw.randint(-3, 3), draw.randint(-3, 3)
            high = low + draw.randint(0, 3)
            expected = {(b + by, t + by + s) for b, t in pairs for s in range(low, high + 1)}
            self.same(span.stepped(by, low, high), expected)

    def test_stepped_without_slips(self):
        span = Span((0, 2), (1, 4), (0, 3))
        self.assertEqual(span.stepped(0, 0, 0), span)
        self.assertEqual(span.stepped(by=-1, low=0, high=0), Span((-1, 1), (0, 3), (0, 3)))
        self.assertEqual(span.stepped(BIG, -BIG, BIG).place, (1, 4 + 2 * BIG))
        self.same(span, pairs_within((0, 2), (1, 4), (0, 3)))

    def test_sighted(self):
        draw = random.Random(10)
        for span, pairs in drawn(500, 11):
            low, blur = draw.randint(-6, 6), draw.randint(0, 3)
            high = low + draw.randint(0, 6)
            errors = range(-blur, blur + 1)
            expected = {(t - e, t) for _, t in pairs if low <= t <= high for e in errors}
            self.same(span.sighted(low, high, blur), expected)

    def test_sighted_edges(self):
        span = Span((0, 2), (1, 4), (0, 3))
        self.same(span.sighted(5, 9, 3), set())
        self.same(span.sighted(-9, 0, 3), set())
        self.same(span.sighted(low=4, high=4, blur=0), {(4, 4)})
        self.same(span.sighted(-BIG, BIG, 0), {(t, t) for t in range(1, 5)})
        self.assertEqual(span.sighted(4, BIG, BIG).belief, (4 - BIG, 4 + BIG))

    def test_moves_of_empty_spans(self):
        for empty in EMPTY:
            self.same(empty.stepped(1, -1, 1), set())
            self.same(empty.sighted(-9, 9, 3), set())
            self.same(empty & Span((0, 9), (0, 9), (0, 9)), set())
            self.same(Span((0, 9), (0, 9), (0, 9)) & empty, set())

    def test_places_at(self):
        for span, pairs in drawn(300, 12):
            for number in range(-8, 9):
                places = [t for b, t in pairs if b == number]
                expected = (min(places), max(places)) if places else None
                self.assertEqual(span.places_at(number), expected)

    def test_places_at_edges(self):
        for empty in EMPTY:
            for number in (0, 1, -BIG, BIG):
                self.assertIsNone(empty.places_at(number))
        span = Span((-BIG, BIG), (0, 3 * BIG), (BIG, BIG))
        self.assertEqual(span.places_at(number=-BIG), (0, 0))
        self.assertEqual(span.places_at(BIG), (2 * BIG, 2 * BIG))
        self.assertIsNone(span.places_at(BIG + 1))
        self.assertIsNone(span.places_at(-BIG - 1))


if __name__ == "__main__":
    unittest.main()
