"""Plans: rows that tell a robot where to go."""

from slipsights.checks import is_cell, is_count, is_name, is_sequence
from slipsights.checks import read_integer, read_integers
from slipsights.errors import InvalidPlan, InvalidRow, InvalidText, NoRow

WAYS = {"east": (1, 0), "north": (0, 1), "west": (-1, 0), "south": (0, -1)}
MOST_STEPS = 9


class Row:
    """A row of a plan, of one of the five kinds below."""

    def blocks(self):
        """The tuples of the rows in it, in the order of their numbers."""
        return ()


class Go(Row):
    """So many steps in a way."""

    def __init__(self, way, steps):
        if not _is_way(way):
            raise InvalidRow("way")
        if not _are_steps(steps):
            raise InvalidRow("steps")
        self.way = way
        self.steps = steps

    def __eq__(self, other):
        return isinstance(other, Row) and str(self) == str(other)

    def __str__(self):
        return f"go {self.way} {self.steps}"


class If(Row):
    """The rows if the test holds, else the others."""

    def __init__(self, test, rows, others=()):
        if not is_test(test):
            raise InvalidRow("test")
        _check_rows(rows, "rows")
        _check_rows(others, "others")
        self.test = test
        self.rows = tuple(rows)
        self.others = tuple(others)

    def blocks(self):
        """The tuples of the rows in it, in the order of their numbers."""
        return (self.rows, self.others)

    def remade(self, blocks):
        """This row with these blocks instead of its own."""
        return If(self.test, blocks[0], blocks[1])

    def __eq__(self, other):
        return isinstance(other, Row) and str(self) == str(other)

    def __str__(self):
        return "\n".join(_block_lines(f"if {self.test}", self.rows, self.others))


class While(Row):
    """The rows again and again, as long as the test holds ahead of them."""

    def __init__(self, test, rows):
        if not is_test(test):
            raise InvalidRow("test")
        _check_rows(rows, "rows")
        # So each time around needs a pair or ends: no run goes around for ever without a step.
        if len(rows) == 0 or not isinstance(rows[0], Go):
            raise InvalidRow("rows")
        self.test = test
        self.rows = tuple(rows)

    def blocks(self):
        """The tuples of the rows in it, in the order of their numbers."""
        return (self.rows,)

    def remade(self, blocks):
        """This row with these blocks instead of its own."""
        return While(self.test, blocks[0])

    def __eq__(self, other):
        return isinstance(other, Row) and str(self) == str(other)

    def __str__(self):
        return "\n".join(_block_lines(f"while {self.test}", self.rows, ()))


class See(Row):
    """The rows if the landmark is seen, else the others."""

    def __init__(self, mark, rows, others=()):
        if not is_name(mark):
            raise InvalidRow("mark")
        _check_rows(rows, "rows")
        _check_rows(others, "others")
        self.mark = mark
        self.rows = tuple(rows)
        self.others = tuple(others)

    def blocks(self):
        """The tuples of the rows in it, in the order of their numbers."""
        return (self.rows, self.others)

    def remade(self, blocks):
        """This row with these blocks instead of its own."""
        return See(self.mark, blocks[0], blocks[1])

    def __eq__(self, other):
        return isinstance(other, Row) and str(self) == str(other)

    def __str__(self):
        return "\n".join(_block_lines(f"see {self.mark}", self.rows, self.others))


class Stop(Row):
    """The end of a run, in a room as the robot takes it."""

    def __init__(self, room):
        if not is_name(room):
            raise InvalidRow("room")
        self.room = room

    def __eq__(self, other):
        return isinstance(other, Row) and str(self) == str(other)

    def __str__(self):
        return f"stop {self.room}"


class Plan:
    """Where a robot begins, how well it knows this, and the rows that it then does."""

    def __init__(self, start, blur, rows=()):
        if not is_cell(start):
            raise InvalidPlan("start")
        if not is_count(blur, 0):
            raise InvalidPlan("blur")
        if not _are_rows(rows):
            raise InvalidPlan("rows")
        self.start = start
        self.blur = blur
        self.rows = tuple(rows)
        self._numbered = tuple(rows_through(rows))

    @classmethod
    def read(cls, text):
        """The plan with this text."""
        lines = text.split("\n")
        numbers = read_integers(lines[0], "start", 3)
        if numbers is None or numbers[2] < 0:
            raise InvalidText(0)
        return cls(numbers[:2], numbers[2], _read_rows(lines))

    def without(self, at):
        """The plan without the row with this number and all rows in it."""
        self._check_number(at)
        return Plan(self.start, self.blur, _rows_without(self.rows, at))

    def _check_number(self, at):
        if at < 0 or at >= len(self._numbered):
            raise NoRow(at)

    def __len__(self):
        return len(self._numbered)

    def __getitem__(self, at):
        self._check_number(at)
        return self._numbered[at]

    def __iter__(self):
        raise TypeError("a plan is not iterable")

    def __eq__(self, other):
        return isinstance(other, Plan) and str(self) == str(other)

    def __str__(self):
        return "\n".join(_lines_of(f"start {self.start[0]} {self.start[1]} {self.blur}", self.rows))


class OpenBlock:
    """A block of a text of which the `end` was not read yet; the whole text is one, too."""

    def __init__(self, word, rest):
        self.word = word
        self.rest = rest
        self.parts = [[]]


def is_test(value):
    """Whether a value is a test."""
    return isinstance(value, str) and read_test(value) is not None


def read_test(text):
    """What a test asks: the direction (0 for x), whether for less, and the number. None for no test."""
    words = text.split(" ")
    if len(words) != 3 or words[0] not in ("x", "y") or words[1] not in ("<", ">="):
        return None
    number = read_integer(words[2])
    if number is None:
        return None
    return (0 if words[0] == "x" else 1, words[1] == "<", number)


def rows_through(rows):
    """All these rows and those in them, in the order of their numbers."""
    through = []
    for row in rows:
        through.append(row)
        for block in row.blocks():
            through.extend(rows_through(block))
    return through


def _is_way(value):
    return isinstance(value, str) and value in WAYS


def _are_steps(value):
    return is_count(value, 1) and value <= MOST_STEPS


def _are_rows(value):
    return is_sequence(value) and all([isinstance(row, Row) for row in value])


def _check_rows(value, word):
    if not _are_rows(value):
        raise InvalidRow(word)


def _lines_of(head, rows):
    return [head] + [str(row) for row in rows]


def _block_lines(head, rows, others):
    if len(others) == 0:
        return _lines_of(head, rows) + ["end"]
    return _lines_of(head, rows) + _lines_of("else", others) + ["end"]


def _rows_without(rows, at):
    """These rows without the one with this number, where the first of them has the number 0."""
    kept = []
    for row in rows:
        many = len(rows_through([row]))
        if at < 0 or at >= many:
            kept.append(row)
        elif at > 0:
            kept.append(_block_without(row, at - 1))
        at -= many
    return kept


def _block_without(row, at):
    """A row without the one with this number in it, where the first one in it has the number 0."""
    blocks = []
    for block in row.blocks():
        blocks.append(_rows_without(block, at))
        at -= len(rows_through(block))
    return row.remade(blocks)


def _read_rows(lines):
    """The rows of a plan, the lines of which begin behind the first one."""
    stack = [OpenBlock("start", "")]
    for at in range(1, len(lines)):
        if not _take_line(stack, lines[at]):
            raise InvalidText(at)
    if len(stack) > 1:
        raise InvalidText(len(lines))
    return stack[0].parts[0]


def _take_line(stack, line):
    """Add a line to what was read; return whether it can stand there."""
    block = stack[-1]
    word, _, rest = line.partition(" ")
    if block.word == "while" and len(block.parts[0]) == 0 and word != "go":
        return False
    if line == "else":
        return _take_else(block)
    if line == "end":
        return _take_end(stack)
    if _opens_block(word, rest):
        stack.append(OpenBlock(word, rest))
        return True
    row = _read_plain_row(word, rest)
    if row is None:
        return False
    block.parts[-1].append(row)
    return True


def _take_else(block):
    if block.word not in ("if", "see") or len(block.parts) == 2:
        return False
    block.parts.append([])
    return True


def _take_end(stack):
    block = stack[-1]
    if len(stack) == 1 or (len(block.parts) == 2 and len(block.parts[1]) == 0):
        return False
    stack.pop()
    stack[-1].parts[-1].append(_closed(block))
    return True


def _opens_block(word, rest):
    if word == "see":
        return is_name(rest)
    return word in ("if", "while") and is_test(rest)


def _closed(block):
    """The row that an open block is at its end."""
    if block.word == "if":
        return If(block.rest, *block.parts)
    if block.word == "while":
        return While(block.rest, *block.parts)
    return See(block.rest, *block.parts)


def _read_plain_row(word, rest):
    """The row of a line that opens no block, or None if it is no such line."""
    if word == "stop" and is_name(rest):
        return Stop(rest)
    way, _, steps = rest.partition(" ")
    if word == "go" and _is_way(way) and _are_steps(read_integer(steps)):
        return Go(way, read_integer(steps))
    return None
