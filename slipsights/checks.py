"""What counts as an integer, a name, a cell or a sequence, and how integers are written."""

LETTERS = "abcdefghijklmnopqrstuvwxyz"
DIGITS = "0123456789"
RESERVED = (
    "start", "go", "if", "else", "while", "see", "stop", "end",
    "barred", "halted", "never", "astray", "endless",
)


def is_integer(value):
    """Whether a value is an integer; True and False are none."""
    return isinstance(value, int) and not isinstance(value, bool)


def is_count(value, least):
    """Whether a value is an integer that is not below the least one."""
    return is_integer(value) and value >= least


def are_counts(value, many, least):
    """Whether a value is a tuple of so many integers, none below the least one."""
    if not isinstance(value, tuple) or len(value) != many:
        return False
    return all([is_count(number, least) for number in value])


def is_cell(value):
    """Whether a value is a tuple of two integers."""
    if not isinstance(value, tuple) or len(value) != 2:
        return False
    return is_integer(value[0]) and is_integer(value[1])


def is_name(value):
    """Whether a value is a name."""
    if not isinstance(value, str) or value in RESERVED:
        return False
    return 1 <= len(value) <= 6 and all([letter in LETTERS for letter in value])


def is_sequence(value):
    """Whether a value may be passed where a sequence is expected."""
    return isinstance(value, (list, tuple))


def lies_within(cell, low, high):
    """Whether the numbers of a cell are from those of `low` to those of `high`."""
    return low[0] <= cell[0] <= high[0] and low[1] <= cell[1] <= high[1]


def read_integer(word):
    """The integer that is written like this, or None."""
    digits = word.removeprefix("-")
    if digits == "" or not all([digit in DIGITS for digit in digits]):
        return None
    if digits[0] == "0" and word != "0":
        return None
    return int(word)


def read_integers(line, word, many):
    """The integers of a line that has this word and so many integers, or None."""
    words = line.split(" ")
    if words[0] != word or len(words) != many + 1:
        return None
    numbers = [read_integer(part) for part in words[1:]]
    if None in numbers:
        return None
    return tuple(numbers)
