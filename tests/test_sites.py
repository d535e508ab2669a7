"""Rooms, landmarks and sites, points [5] and [6]; names, cells and integers, point [1]."""

import unittest

from slipsights.errors import InvalidSite, NoName
from slipsights.sites import Mark, Room, Site
from tests import samples


class Other:
    """A class that says it equals everything."""

    def __eq__(self, other):
        return True


def around(low, high):
    """All cells of a rectangle and of the ring about it."""
    return [(x, y) for x in range(low[0] - 1, high[0] + 2) for y in range(low[1] - 1, high[1] + 2)]


class SiteCase(unittest.TestCase):
    def refused(self, word, call, *arguments):
        with self.assertRaises(InvalidSite, msg=arguments) as caught:
            call(*arguments)
        self.assertEqual(caught.exception.word, word, arguments)


class TestRoom(SiteCase):
    def test_attributes(self):
        room = Room("hall", (0, -1), (2, 4), True)
        self.assertEqual((room.name, room.low, room.high, room.barred), ("hall", (0, -1), (2, 4), True))

    def test_default_is_not_barred(self):
        self.assertIs(Room("hall", (0, 0), (2, 4)).barred, False)

    def test_by_name(self):
        room = Room(barred=True, high=(3, 4), low=(1, 2), name="pit")
        self.assertEqual(room, Room("pit", (1, 2), (3, 4), True))

    def test_names(self):
        for name in samples.NAMES:
            self.assertEqual(Room(name, (0, 0), (0, 0)).name, name)
        for name in samples.NO_NAMES + samples.objects() + [samples.deep("a")]:
            self.refused("name", Room, name, (0, 0), (0, 0))

    def test_each_letter(self):
        for letter in "abcdefghijklmnopqrstuvwxyz":
            self.assertEqual(Room(letter, (0, 0), (0, 0)).name, letter)

    def test_corners(self):
        for cell in samples.CELLS:
            self.assertEqual(Room("hall", cell, cell).low, cell)
            self.assertEqual(Room("hall", cell, cell).high, cell)
        for value in samples.NO_CELLS + samples.objects() + [samples.deep(0)]:
            self.refused("low", Room, "hall", value, (9, 9))
            self.refused("high", Room, "hall", (0, 0), value)

    def test_high_is_not_less(self):
        self.refused("high", Room, "hall", (2, 2), (1, 5))
        self.refused("high", Room, "hall", (2, 2), (5, 1))
        self.refused("high", Room, "hall", (2, 2), (1, 1))
        self.assertEqual(Room("hall", (2, 2), (2, 3)).high, (2, 3))
        self.assertEqual(Room("hall", (2, 2), (3, 2)).high, (3, 2))

    def test_barred_is_a_bool(self):
        for value in [0, 1, None, "", "True", [], (True,), [False]] + samples.objects():
            self.refused("barred", Room, "hall", (0, 0), (1, 1), value)

    def test_first_wrong_argument(self):
        self.refused("name", Room, "go", None, None, None)
        self.refused("low", Room, "hall", [0, 0], [0, 0], 1)
        self.refused("high", Room, "hall", (0, 0), (-1, 0), 1)
        self.refused("barred", Room, "hall", (0, 0), (0, 0), 1)

    def test_membership(self):
        room = Room("hall", (-1, 2), (1, 3))
        for cell in around(room.low, room.high):
            self.assertIs(cell in room, -1 <= cell[0] <= 1 and 2 <= cell[1] <= 3, cell)

    def test_membership_of_any_value(self):
        room = Room("hall", (-5, -5), (5, 5))
        for value in samples.NO_CELLS + samples.objects() + [samples.deep((0, 0))]:
            self.assertIs(value in room, False)
            self.assertIs(value not in room, True)

    def test_equality(self):
        room = Room("hall", (0, 0), (2, 4))
        self.assertTrue(room == Room("hall", (0, 0), (2, 4), False))
        self.assertFalse(room != Room("hall", (0, 0), (2, 4)))
        for other in [
            Room("halls", (0, 0), (2, 4)), Room("hall", (1, 0), (2, 4)), Room("hall", (0, 1), (2, 4)),
            Room("hall", (0, 0), (3, 4)), Room("hall", (0, 0), (2, 5)), Room("hall", (0, 0), (2, 4), True),
        ]:
            self.assertIs(room == other, False)
            self.assertIs(room != other, True)

    def test_equal_to_nothing_of_another_class(self):
        room = Room("lamp", (0, 0), (1, 1))
        others = samples.any_values() + [Mark("lamp", (0, 0), (1, 1), 0), "room lamp 0 0 1 1", Other()]
        for other in others:
            if not isinstance(other, Room):
                self.assertIs(room == other, False)

    def test_not_iterable(self):
        self.assertRaises(TypeError, iter, Room("hall", (0, 0), (1, 1)))


class TestMark(SiteCase):
    def test_attributes(self):
        mark = Mark("lamp", (6, 0), (7, 4), 1)
        self.assertEqual((mark.name, mark.low, mark.high, mark.blur), ("lamp", (6, 0), (7, 4), 1))

    def test_by_name(self):
        self.assertEqual(Mark(blur=3, high=(3, 4), low=(1, 2), name="a"), Mark("a", (1, 2), (3, 4), 3))

    def test_names_and_corners(self):
        for name in samples.NO_NAMES + samples.objects():
            self.refused("name", Mark, name, (0, 0), (0, 0), 0)
        for value in samples.NO_CELLS + samples.objects():
            self.refused("low", Mark, "lamp", value, (9, 9), 0)
            self.refused("high", Mark, "lamp", (0, 0), value, 0)
        self.refused("high", Mark, "lamp", (0, 1), (5, 0), 0)
        self.refused("high", Mark, "lamp", (1, 0), (0, 5), 0)

    def test_blur(self):
        for blur in [0, 1, 3, 10 ** 20]:
            self.assertEqual(Mark("lamp", (0, 0), (0, 0), blur).blur, blur)
        for blur in samples.NO_INTEGERS + [-1, -99] + samples.objects():
            self.refused("blur", Mark, "lamp", (0, 0), (0, 0), blur)

    def test_first_wrong_argument(self):
        self.refused("name", Mark, "", None, None, None)
        self.refused("low", Mark, "lamp", None, None, None)
        self.refused("high", Mark, "lamp", (0, 0), None, None)
        self.refused("high", Mark, "lamp", (0, 0), (0, -1), -1)

    def test_membership(self):
        mark = Mark("lamp", (3, -1), (5, 0), 2)
        for cell in around(mark.low, mark.high):
            self.assertIs(cell in mark, 3 <= cell[0] <= 5 and -1 <= cell[1] <= 0, cell)
        for value in samples.NO_CELLS + samples.objects() + [samples.deep((0, 0))]:
            self.assertIs(value in mark, False)

    def test_equality(self):
        mark = Mark("lamp", (0, 0), (2, 4), 1)
        self.assertTrue(mark == Mark("lamp", (0, 0), (2, 4), 1))
        self.assertFalse(mark != Mark("lamp", (0, 0), (2, 4), 1))
        for other in [
            Mark("lamps", (0, 0), (2, 4), 1), Mark("lamp", (1, 0), (2, 4), 1), Mark("lamp", (0, 1), (2, 4), 1),
            Mark("lamp", (0, 0), (3, 4), 1), Mark("lamp", (0, 0), (2, 5), 1), Mark("lamp", (0, 0), (2, 4), 0),
        ]:
            self.assertIs(mark == other, False)
            self.assertIs(mark != other, True)

    def test_equal_to_nothing_of_another_class(self):
        mark = Mark("hall", (0, 0), (1, 1), 0)
        for other in samples.any_values() + [Room("hall", (0, 0), (1, 1)), "mark hall 0 0 1 1 0", Other()]:
            if not isinstance(other, Mark):
                self.assertIs(mark == other, False)

    def test_not_iterable(self):
        self.assertRaises(TypeError, iter, Mark("lamp", (0, 0), (1, 1), 0))


class TestSite(SiteCase):
    def setUp(self):
        self.hall = Room("hall", (0, 0), (2, 4))
        self.pit = Room("pit", (4, 1), (4, 2), True)
        self.lamp = Mark("lamp", (6, 0), (7, 4), 1)
        self.bell = Mark("bell", (0, 0), (9, 9), 0)
        self.site = Site((8, 5), (0, 1, 2), [self.hall, self.pit], (self.lamp, self.bell))

    def test_attributes(self):
        site = self.site
        self.assertEqual((site.size, site.slips), ((8, 5), (0, 1, 2)))
        self.assertEqual((site.rooms, site.marks), ((self.hall, self.pit), (self.lamp, self.bell)))
        self.assertIs(type(site.rooms), tuple)
        self.assertIs(type(site.marks), tuple)

    def test_sequences_of_both_kinds(self):
        other = Site((8, 5), (0, 1, 2), (self.hall, self.pit), [self.lamp, self.bell])
        self.assertEqual(other, self.site)
        self.assertIs(type(other.rooms), tuple)
        self.assertIs(type(other.marks), tuple)

    def test_defaults(self):
        site = Site((1, 1), (0, 0, 0))
        self.assertEqual((site.rooms, site.marks), ((), ()))

    def test_by_name(self):
        site = Site(marks=[self.lamp], rooms=[self.hall], slips=(1, 2, 3), size=(8, 5))
        self.assertEqual(site, Site((8, 5), (1, 2, 3), [self.hall], [self.lamp]))
        self.assertIs(site.room_of(name="hall"), self.hall)
        self.assertIs(site.mark_of(name="lamp"), self.lamp)
        self.assertIs(site.is_barred(cell=(0, 0)), False)

    def test_later_changes_have_no_effect(self):
        rooms, marks = [self.hall], [self.lamp]
        site = Site((8, 5), (0, 0, 0), rooms, marks)
        rooms.append(self.pit)
        marks.clear()
        self.assertEqual((site.rooms, site.marks), ((self.hall,), (self.lamp,)))
        self.assertEqual((rooms, marks), ([self.hall, self.pit], []))

    def test_size(self):
        self.assertEqual(Site((1, 1), (0, 0, 0)).size, (1, 1))
        wrong = [(0, 1), (1, 0), (-1, 5), (5, -1), (1, 1, 1), (1,), [1, 1], (True, 1), (1, True), ("1", 1)]
        for size in wrong + samples.NO_CELLS + samples.objects():
            self.refused("size", Site, size, (0, 0, 0))

    def test_slips(self):
        self.assertEqual(Site((1, 1), (3, 0, 2)).slips, (3, 0, 2))
        wrong = [
            (-1, 0, 0), (0, -1, 0), (0, 0, -1), (0, 0), (0, 0, 0, 0), [0, 0, 0], (False, 0, 0), (0, False, 0),
            (0, 0, False), (0, 0, None), "000", None, 0, (),
        ]
        for slips in wrong + samples.objects():
            self.refused("slips", Site, (1, 1), slips)

    def test_rooms_and_marks_of_the_wrong_kind(self):
        for value in samples.NO_SEQUENCES + samples.objects():
            self.refused("rooms", Site, (8, 5), (0, 0, 0), value)
            self.refused("marks", Site, (8, 5), (0, 0, 0), (), value)
        self.refused("rooms", Site, (8, 5), (0, 0, 0), [self.hall, self.lamp])
        self.refused("rooms", Site, (8, 5), (0, 0, 0), [self.hall, None])
        self.refused("rooms", Site, (8, 5), (0, 0, 0), (["hall", (0, 0), (1, 1)],))
        self.refused("marks", Site, (8, 5), (0, 0, 0), (), [self.lamp, self.hall])
        self.refused("marks", Site, (8, 5), (0, 0, 0), (), [1])

    def test_names_come_once(self):
        twin = Room("hall", (5, 5), (6, 6), True)
        self.refused("name", Site, (8, 5), (0, 0, 0), [self.hall, self.pit, twin])
        self.refused("name", Site, (8, 5), (0, 0, 0), [self.hall, self.hall])
        self.refused("name", Site, (8, 5), (0, 0, 0), [], [self.lamp, self.bell, Mark("lamp", (0, 0), (0, 0), 0)])

    def test_room_and_mark_may_share_a_name(self):
        site = Site((8, 5), (0, 0, 0), [Room("lamp", (0, 0), (1, 1))], [self.lamp])
        self.assertEqual((site.room_of("lamp").high, site.mark_of("lamp")), ((1, 1), self.lamp))

    def test_first_wrong_argument(self):
        self.refused("size", Site, [8, 5], None, None, None)
        self.refused("slips", Site, (8, 5), None, None, None)
        self.refused("rooms", Site, (8, 5), (0, 0, 0), None, None)
        self.refused("marks", Site, (8, 5), (0, 0, 0), [self.hall, self.hall], None)
        self.refused("rooms", Site, (8, 5), (0, 0, 0), [self.hall, self.hall, 1], None)

    def test_room_of_and_mark_of(self):
        self.assertIs(self.site.room_of("hall"), self.hall)
        self.assertIs(self.site.room_of("pit"), self.pit)
        self.assertIs(self.site.mark_of("lamp"), self.lamp)
        self.assertIs(self.site.mark_of("bell"), self.bell)

    def test_no_name(self):
        for value in samples.any_values() + ["lamp", "bell", "hal", "halls", "Hall"]:
            if not isinstance(value, str) or value != "hall":
                with self.assertRaises(NoName) as caught:
                    self.site.room_of(value)
                self.assertIs(caught.exception.name, value)
            if not isinstance(value, str) or value not in ("lamp", "bell"):
                with self.assertRaises(NoName) as caught:
                    self.site.mark_of(value)
                self.assertIs(caught.exception.name, value)
        self.assertRaises(NoName, self.site.mark_of, "hall")

    def test_is_barred(self):
        for cell in around((0, 0), (7, 4)):
            inside = 0 <= cell[0] <= 7 and 0 <= cell[1] <= 4
            self.assertIs(self.site.is_barred(cell), not inside or cell in ((4, 1), (4, 2)), cell)

    def test_is_barred_where_rooms_overlap(self):
        open_room, barred_room = Room("a", (0, 0), (3, 3)), Room("b", (2, 0), (5, 3), True)
        for rooms in ([open_room, barred_room], [barred_room, open_room]):
            site = Site((6, 4), (0, 0, 0), rooms)
            self.assertEqual([site.is_barred((x, 1)) for x in range(6)], [False, False, True, True, True, True])

    def test_equality(self):
        same = Site((8, 5), (0, 1, 2), (self.hall, self.pit), (self.lamp, self.bell))
        self.assertTrue(self.site == same)
        self.assertFalse(self.site != same)
        for other in [
            Site((9, 5), (0, 1, 2), self.site.rooms, self.site.marks),
            Site((8, 6), (0, 1, 2), self.site.rooms, self.site.marks),
            Site((8, 5), (1, 1, 2), self.site.rooms, self.site.marks),
            Site((8, 5), (0, 0, 2), self.site.rooms, self.site.marks),
            Site((8, 5), (0, 1, 1), self.site.rooms, self.site.marks),
            Site((8, 5), (0, 1, 2), [self.pit, self.hall], self.site.marks),
            Site((8, 5), (0, 1, 2), [self.hall], self.site.marks),
            Site((8, 5), (0, 1, 2), self.site.rooms, [self.bell, self.lamp]),
            Site((8, 5), (0, 1, 2), self.site.rooms),
        ]:
            self.assertIs(self.site == other, False)
            self.assertIs(self.site != other, True)

    def test_equal_to_nothing_of_another_class(self):
        for other in samples.any_values() + [str(self.site), Other()]:
            if not isinstance(other, Site):
                self.assertIs(self.site == other, False)

    def test_not_iterable(self):
        self.assertRaises(TypeError, iter, self.site)


if __name__ == "__main__":
    unittest.main()
