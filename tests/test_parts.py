"""The parts that the package has for itself: sets of places and of pairs as integers, and their covers."""

import random
import unittest

from slipsights.covers import Sheet, cover, planes_of, sheet_of
from slipsights.grids import Grid, lowest_of, numbers_of, swept
from slipsights.planes import Plane
from slipsights.spans import Span


class TestGrid(unittest.TestCase):
    def setUp(self):
        self.grid = Grid((4, 3), 2)
        self.cells = [(x, y) for x in range(-2, 6) for y in range(-2, 5)]

    def test_each_cell_has_a_bit(self):
        numbers = [self.grid.number_of(cell) for cell in self.cells]
        self.assertEqual(numbers, list(range(len(self.cells))))
        self.assertEqual([self.grid.cell_at(number) for number in numbers], self.cells)

    def test_rectangles(self):
        draw = random.Random(1)
        for _ in range(400):
            low = draw.randint(-5, 7), draw.randint(-5, 7)
            high = low[0] + draw.randint(0, 9), low[1] + draw.randint(0, 9)
            expected = [(x, y) for x, y in self.cells if low[0] <= x <= high[0] and low[1] <= y <= high[1]]
            found = self.grid.rectangle(low, high)
            self.assertEqual(self.grid.cells_of(found), expected)
            if expected:
                columns = list(zip(*expected))
                corners = tuple(map(min, columns)), tuple(map(max, columns))
                self.assertEqual(self.grid.corners(found), corners)

    def test_sweeps(self):
        draw = random.Random(2)
        for _ in range(400):
            places = [(draw.randint(0, 3), draw.randint(0, 2)) for _ in range(draw.randint(0, 4))]
            low = draw.randint(-2, 2), draw.randint(-2, 2)
            high = draw.randint(low[0], 2), draw.randint(low[1], 2)
            bits = sum(1 << self.grid.number_of(cell) for cell in set(places))
            near = [(x, y) for x in range(low[0], high[0] + 1) for y in range(low[1], high[1] + 1)]
            expected = {(x + a, y + b) for x, y in places for a, b in near}
            found = self.grid.cells_of(swept(bits, self.grid.sweep(low, high)))
            self.assertEqual(found, sorted(expected))

    def test_numbers(self):
        self.assertEqual(numbers_of(0), [])
        self.assertEqual(numbers_of(1 << 90 | 1 << 3 | 1), [0, 3, 90])
        self.assertEqual(lowest_of(1 << 90 | 1 << 40), 40)


class PlaneCase(unittest.TestCase):
    def pairs(self, many, margin):
        return [(b, t) for b in range(many) for t in range(-margin, many + margin)]

    def bits(self, plane, pairs):
        return sum(1 << plane.number_of(b, t) for b, t in set(pairs))

    def drawn_spans(self, draw, plane, many):
        while many > 0:
            ranges = [sorted((draw.randint(-6, 9), draw.randint(-6, 9))) for _ in range(3)]
            span = Span(*[tuple(one) for one in ranges]) & Span(plane.beliefs, plane.places, (-99, 99))
            if span:
                many -= 1
                yield span


class TestPlane(PlaneCase):
    def test_each_pair_has_a_bit(self):
        for many, margin in [(1, 1), (5, 1), (4, 3)]:
            plane, pairs = Plane(many, margin), self.pairs(many, margin)
            self.assertEqual([plane.number_of(b, t) for b, t in pairs], list(range(len(pairs))))

    def test_bits(self):
        draw = random.Random(3)
        for many, margin in [(1, 1), (5, 1), (4, 3), (6, 2)]:
            plane = Plane(many, margin)
            for span in self.drawn_spans(draw, plane, 150):
                expected = self.bits(plane, [pair for pair in self.pairs(many, margin) if pair in span])
                self.assertEqual(plane.bits_of((span.belief, span.place, span.error)), expected)

    def test_has_all(self):
        plane = Plane(4, 2)
        for belief, place, has_all in [
            ((0, 3), (-2, 5), True), ((1, 1), (0, 0), True), ((-1, 3), (0, 0), False), ((0, 4), (0, 0), False),
            ((0, 0), (-3, 0), False), ((0, 0), (0, 6), False), ((3, 3), (6, 6), False), ((0, 3), (7, 8), False),
        ]:
            span = Span(belief, place, (-99, 99))
            self.assertIs(plane.has_all((span.belief, span.place, span.error)), has_all)

    def test_grown(self):
        draw = random.Random(4)
        for many, margin in [(1, 1), (5, 1), (4, 3)]:
            plane, pairs = Plane(many, margin), self.pairs(many, margin)
            for _ in range(200):
                whole = {pair for pair in pairs if draw.random() < draw.choice([0.3, 0.6, 0.9])}
                for seed in whole:
                    bounds = plane.grown(self.bits(plane, whole), plane.number_of(*seed))
                    span = Span(*bounds)
                    self.assertEqual((span.belief, span.place, span.error), bounds)
                    self.assertIn(seed, span)
                    self.assertLessEqual({pair for pair in pairs if pair in span}, whole)
                    self.assertEqual(span.total, sum(pair in span for pair in whole))

    def test_grown_to_a_whole_span(self):
        draw = random.Random(5)
        plane = Plane(6, 1)
        for span in self.drawn_spans(draw, plane, 200):
            bounds = span.belief, span.place, span.error
            bits = plane.bits_of(bounds)
            for number in numbers_of(bits):
                self.assertEqual(plane.grown(bits, number), bounds)


class TestCovers(PlaneCase):
    def drawn_sheet(self, draw, planes):
        """A sheet and the set of what it has, as tuples of a bit across and a bit upward."""
        sheet, known = Sheet(), set()
        for _ in range(draw.randint(0, 5)):
            across, upward = [list(self.drawn_spans(draw, plane, 1))[0] for plane in planes]
            bits = [plane.bits_of((one.belief, one.place, one.error)) for plane, one in zip(planes, (across, upward))]
            sheet.take_in(*bits)
            known |= self.products(bits)
        return sheet, known

    def products(self, bits):
        return {(x, y) for x in numbers_of(bits[0]) for y in numbers_of(bits[1])}

    def test_sheets(self):
        draw = random.Random(6)
        planes = Plane(4, 1), Plane(3, 1)
        for _ in range(200):
            sheet, known = self.drawn_sheet(draw, planes)
            found = [self.products((across, upward)) for upward, across in sheet.parts.items()]
            self.assertEqual(set().union(*found), known)
            self.assertEqual(sum(len(one) for one in found), len(known))
            for across, upward in zip(self.drawn_spans(draw, planes[0], 3), self.drawn_spans(draw, planes[1], 3)):
                bits = [plane.bits_of((one.belief, one.place, one.error)) for plane, one in zip(planes, (across, upward))]
                self.assertIs(sheet.has_all(*bits), self.products(bits) <= known)
                expected = {x for x in numbers_of((1 << 40) - 1) if {(x, y) for y in numbers_of(bits[1])} <= known}
                self.assertEqual(set(numbers_of(sheet.across_of(bits[1]))), expected)

    def test_covers(self):
        draw = random.Random(7)
        planes = Plane(4, 1), Plane(3, 1)
        for _ in range(200):
            sheet, known = self.drawn_sheet(draw, planes)
            products = cover(planes, sheet)
            found = [self.products((planes[0].bits_of(x), planes[1].bits_of(y))) for x, y in products]
            self.assertEqual(set().union(*found), known)

    def test_few_products(self):
        planes = Plane(4, 1), Plane(3, 1)
        draw = random.Random(8)
        for _ in range(100):
            spans = [list(self.drawn_spans(draw, plane, 1))[0] for plane in planes]
            bounds = [(one.belief, one.place, one.error) for one in spans]
            sheet = Sheet()
            sheet.take_in(planes[0].bits_of(bounds[0]), planes[1].bits_of(bounds[1]))
            self.assertEqual(cover(planes, sheet), [tuple(bounds)])

    def test_sheets_of_standings(self):
        draw = random.Random(9)
        for size, margin in [((4, 3), 1), ((3, 5), 2)]:
            grid = Grid(size, margin)
            planes = planes_of(grid)
            for _ in range(100):
                standings, known = {}, set()
                for _ in range(draw.randint(1, 4)):
                    belief = draw.randrange(size[0]), draw.randrange(size[1])
                    place = draw.randrange(size[0]), draw.randrange(size[1])
                    standings[belief] = standings.get(belief, 0) | 1 << grid.number_of(place)
                    known.add((planes[0].number_of(belief[0], place[0]), planes[1].number_of(belief[1], place[1])))
                sheet = sheet_of(grid, planes, standings)
                found = [self.products((across, upward)) for upward, across in sheet.parts.items()]
                self.assertEqual(set().union(*found), known)
                self.assertEqual(sum(len(one) for one in found), len(known))


if __name__ == "__main__":
    unittest.main()
