"""The texts of sites, point [7]."""

import unittest

from slipsights.errors import InvalidSite, InvalidText
from slipsights.sites import Mark, Room, Site

HEAD = "yard 8 5\nslip 0 1 1"
FULL = HEAD + "\nroom hall 0 0 2 4\nbarred pit 4 1 4 2\nmark lamp 6 0 7 4 1\nmark bell -3 -9 99 0 0"


class TestSiteText(unittest.TestCase):
    def wrong(self, at, text):
        with self.assertRaises(InvalidText, msg=text) as caught:
            Site.read(text)
        self.assertEqual(caught.exception.at, at, text)

    def test_text_of_a_site(self):
        site = Site(
            (8, 5), (0, 1, 1), [Room("hall", (0, 0), (2, 4)), Room("pit", (4, 1), (4, 2), True)],
            [Mark("lamp", (6, 0), (7, 4), 1), Mark("bell", (-3, -9), (99, 0), 0)],
        )
        self.assertEqual(str(site), FULL)
        self.assertEqual(str(Site((60, 40), (3, 2, 1))), "yard 60 40\nslip 3 2 1")

    def test_site_read(self):
        site = Site.read(FULL)
        self.assertIs(type(site), Site)
        self.assertEqual((site.size, site.slips), ((8, 5), (0, 1, 1)))
        self.assertEqual(site.rooms, (Room("hall", (0, 0), (2, 4)), Room("pit", (4, 1), (4, 2), True)))
        self.assertEqual(site.marks, (Mark("lamp", (6, 0), (7, 4), 1), Mark("bell", (-3, -9), (99, 0), 0)))

    def test_read_back(self):
        for text in [FULL, HEAD, HEAD + "\nmark a 0 0 0 0 0", HEAD + "\nbarred a -1 -1 0 0", "yard 10 1\nslip 0 0 10"]:
            self.assertEqual(str(Site.read(text)), text)
            self.assertEqual(Site.read(text), Site.read(text=text))

    def test_rooms_alone_and_marks_alone(self):
        self.assertEqual(len(Site.read(HEAD + "\nroom a 0 0 1 1\nroom b 0 0 1 1").rooms), 2)
        self.assertEqual(len(Site.read(HEAD + "\nmark a 0 0 1 1 0\nmark b 0 0 1 1 0").marks), 2)

    def test_too_few_lines(self):
        self.wrong(0, "")
        self.wrong(1, "yard 8 5")

    def test_first_line(self):
        for line in [
            "yard", "yard 8", "yard 8 5 1", "yard 0 5", "yard 8 0", "yard -8 5", "yard 08 5", "yard 8 05", "yard 8 -0",
            "yard  8 5", "yard 8  5", " yard 8 5", "yard 8 5 ", "Yard 8 5", "yards 8 5", "yard 8 x", "yard +8 5",
            "yard 8.0 5", "slip 0 1 1", "room hall 0 0 1 1", "", "yard 8 5\t", "yard\t8 5", "8 5", "yard 8_0 5",
        ]:
            self.wrong(0, line + "\nslip 0 1 1")
            self.wrong(0, line)
            self.wrong(0, line + "\nslip nothing")

    def test_second_line(self):
        for line in [
            "slip", "slip 0 1", "slip 0 1 1 1", "slip -1 1 1", "slip 0 -1 1", "slip 0 1 -1", "slip 0 1 -0", "slip 00 1 1",
            "slip 0 01 1", "slip  0 1 1", "slip 0 1  1", " slip 0 1 1", "slip 0 1 1 ", "slips 0 1 1", "slip 0 1 one",
            "yard 8 5", "room hall 0 0 1 1", "mark lamp 0 0 1 1 0", "", "slip 0 1 +1", "slip - 1 1",
        ]:
            self.wrong(1, "yard 8 5\n" + line)
            self.wrong(1, "yard 8 5\n" + line + "\nroom a 0 0 1 1")

    def test_exchanged_lines(self):
        self.wrong(0, "slip 0 1 1\nyard 8 5")
        self.wrong(0, "room hall 0 0 1 1\nyard 8 5\nslip 0 1 1")
        self.wrong(1, "yard 8 5\nroom hall 0 0 1 1\nslip 0 1 1")
        self.wrong(3, HEAD + "\nmark lamp 0 0 1 1 0\nroom hall 0 0 1 1")
        self.wrong(4, HEAD + "\nroom a 0 0 1 1\nmark lamp 0 0 1 1 0\nbarred hall 0 0 1 1\nmark b 0 0 1 1 0")

    def test_lines_that_are_too_many(self):
        self.wrong(2, HEAD + "\n")
        self.wrong(2, HEAD + "\nyard 8 5")
        self.wrong(2, HEAD + "\nslip 0 1 1")
        self.wrong(6, FULL + "\n")
        self.wrong(6, FULL + "\n\nmark b 0 0 1 1 0")
        self.wrong(6, FULL + "\nslip 0 1 1")

    def test_wrong_rooms_and_marks(self):
        for line in [
            "room", "room hall", "room hall 0 0 1", "room hall 0 0 1 1 1", "room 0 0 1 1", "hall 0 0 1 1",
            "Room hall 0 0 1 1", "room go 0 0 1 1", "room Hall 0 0 1 1", "room abcdefg 0 0 1 1", "room  0 0 1 1",
            "room hall 1 0 0 1", "room hall 0 1 1 0", "barred hall 1 0 0 1", "barred end 0 0 1 1", "barred pit 0 0 1",
            "barred pit 0 0 1 1 0", "room hall 0 0 1 -0", "room hall -0 0 1 1", "room hall 0 0 01 1", "room hall 0 0 1 +1",
            "room hall 0 0  1 1", " room hall 0 0 1 1", "room hall 0 0 1 1 ", "room hall 0 0 1 one", "room hall 0 0 - 1",
            "room hall 0 0 --1 1", "mark", "mark lamp", "mark lamp 0 0 1 1", "mark lamp 0 0 1 1 0 0", "mark 0 0 1 1 0",
            "mark lamp 0 0 1 1 -1", "mark lamp 0 0 1 1 -0", "mark lamp 0 0 1 1 00", "mark lamp 1 0 0 1 0",
            "mark lamp 0 1 1 0 0", "mark while 0 0 1 1 0", "mark lamp  0 0 1 1 0", "mark lamp 0 0 1 1 0 ",
            "mark lamp 0 0 1 1 x", "marks lamp 0 0 1 1 0", "else", "end", "room pit 0 0 1 1\t",
        ]:
            self.wrong(2, HEAD + "\n" + line)
            self.wrong(3, HEAD + "\nroom yes 0 0 1 1\n" + line)
            self.wrong(2, HEAD + "\n" + line + "\nmark yes 0 0 1 1 0")
            self.wrong(3, HEAD + "\nmark yes 0 0 1 1 0\n" + line)

    def test_first_of_several_wrong_lines(self):
        self.wrong(0, "yard 0 0\nslip 0\nroom\nmark")
        self.wrong(1, "yard 1 1\nslip 0\nroom\nmark")
        self.wrong(2, "yard 1 1\nslip 0 0 0\nroom\nmark")

    def test_double_names(self):
        for text in [
            HEAD + "\nroom a 0 0 1 1\nbarred a 2 2 3 3",
            HEAD + "\nmark a 0 0 1 1 0\nmark b 0 0 1 1 0\nmark a 2 2 3 3 0",
        ]:
            with self.assertRaises(InvalidSite) as caught:
                Site.read(text)
            self.assertEqual(caught.exception.word, "name")
        self.assertEqual(Site.read(HEAD + "\nroom a 0 0 1 1\nmark a 0 0 1 1 0").mark_of("a").blur, 0)

    def test_wrong_line_comes_before_a_double_name(self):
        self.wrong(4, HEAD + "\nroom a 0 0 1 1\nroom a 0 0 1 1\nroom b 0 0 1")


if __name__ == "__main__":
    unittest.main()
