"""Yards with their rooms and landmarks."""

from slipsights.checks import are_counts, is_cell, is_count, is_name, is_sequence
from slipsights.checks import lies_within, read_integer, read_integers
from slipsights.errors import InvalidSite, InvalidText, NoName

# How many integers stand behind the name in each kind of line.
SHAPES = (("room", 4), ("barred", 4), ("mark", 5))


class Room:
    """A rectangle of cells with a name, which may be barred."""

    def __init__(self, name, low, high, barred=False):
        _check_rectangle(name, low, high)
        if not isinstance(barred, bool):
            raise InvalidSite("barred")
        self.name = name
        self.low = low
        self.high = high
        self.barred = barred

    def __contains__(self, cell):
        return is_cell(cell) and lies_within(cell, self.low, self.high)

    def __eq__(self, other):
        if not isinstance(other, Room) or self.barred != other.barred:
            return False
        return self.name == other.name and self.low == other.low and self.high == other.high


class Mark:
    """A landmark, seen from a rectangle of cells with an error of at most `blur`."""

    def __init__(self, name, low, high, blur):
        _check_rectangle(name, low, high)
        if not is_count(blur, 0):
            raise InvalidSite("blur")
        self.name = name
        self.low = low
        self.high = high
        self.blur = blur

    def __contains__(self, cell):
        return is_cell(cell) and lies_within(cell, self.low, self.high)

    def __eq__(self, other):
        if not isinstance(other, Mark) or self.blur != other.blur:
            return False
        return self.name == other.name and self.low == other.low and self.high == other.high


class Site:
    """A yard of cells, the bounds of the slips there, its rooms and its landmarks."""

    def __init__(self, size, slips, rooms=(), marks=()):
        if not _is_size(size):
            raise InvalidSite("size")
        if not _are_slips(slips):
            raise InvalidSite("slips")
        if not is_sequence(rooms) or not all([isinstance(room, Room) for room in rooms]):
            raise InvalidSite("rooms")
        if not is_sequence(marks) or not all([isinstance(mark, Mark) for mark in marks]):
            raise InvalidSite("marks")
        if _has_double_name(rooms) or _has_double_name(marks):
            raise InvalidSite("name")
        self.size = size
        self.slips = slips
        self.rooms = tuple(rooms)
        self.marks = tuple(marks)

    @classmethod
    def read(cls, text):
        """The site with this text."""
        lines = text.split("\n")
        size = read_integers(lines[0], "yard", 2)
        if not _is_size(size):
            raise InvalidText(0)
        if len(lines) < 2:
            raise InvalidText(len(lines))
        slips = read_integers(lines[1], "slip", 3)
        if not _are_slips(slips):
            raise InvalidText(1)
        rooms = []
        marks = []
        for at in range(2, len(lines)):
            thing = _read_thing(lines[at])
            if isinstance(thing, Mark):
                marks.append(thing)
            elif isinstance(thing, Room) and len(marks) == 0:
                rooms.append(thing)
            else:
                raise InvalidText(at)
        return cls(size, slips, rooms, marks)

    def room_of(self, name):
        """The room with this name."""
        for room in self.rooms:
            if room.name == name:
                return room
        raise NoName(name)

    def mark_of(self, name):
        """The landmark with this name."""
        for mark in self.marks:
            if mark.name == name:
                return mark
        raise NoName(name)

    def in_yard(self, cell):
        """Whether a cell is one of the yard."""
        return lies_within(cell, (0, 0), (self.size[0] - 1, self.size[1] - 1))

    def is_barred(self, cell):
        """Whether a robot must not be in a cell."""
        return not self.in_yard(cell) or any([room.barred and cell in room for room in self.rooms])

    def __eq__(self, other):
        return isinstance(other, Site) and str(self) == str(other)

    def __str__(self):
        return "\n".join(_site_lines(self))


def _check_rectangle(name, low, high):
    """Refuse what rooms and landmarks refuse alike."""
    if not is_name(name):
        raise InvalidSite("name")
    if not is_cell(low):
        raise InvalidSite("low")
    if not is_cell(high) or high[0] < low[0] or high[1] < low[1]:
        raise InvalidSite("high")


def _is_size(value):
    return are_counts(value, 2, 1)


def _are_slips(value):
    return are_counts(value, 3, 0)


def _has_double_name(things):
    names = [thing.name for thing in things]
    return len(set(names)) < len(names)


def _site_lines(site):
    width, height = site.size
    back, ahead, side = site.slips
    head = [f"yard {width} {height}", f"slip {back} {ahead} {side}"]
    return head + [_room_line(room) for room in site.rooms] + [_mark_line(mark) for mark in site.marks]


def _room_line(room):
    word = "barred" if room.barred else "room"
    return f"{word} {_rectangle_text(room)}"


def _mark_line(mark):
    return f"mark {_rectangle_text(mark)} {mark.blur}"


def _rectangle_text(thing):
    return f"{thing.name} {thing.low[0]} {thing.low[1]} {thing.high[0]} {thing.high[1]}"


def _read_thing(line):
    """The room or landmark of a line, or None if it is no such line."""
    words = line.split(" ")
    numbers = tuple([read_integer(word) for word in words[2:]])
    if (words[0], len(numbers)) not in SHAPES:
        return None
    try:
        return _made_thing(words[0], words[1], numbers)
    except InvalidSite:
        return None


def _made_thing(word, name, numbers):
    low, high = numbers[:2], numbers[2:4]
    if word == "mark":
        return Mark(name, low, high, numbers[4])
    return Room(name, low, high, word == "barred")
