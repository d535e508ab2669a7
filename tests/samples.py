"""Values that several tests pass where the document says "any value"."""

from slipsights.cells import Cells
from slipsights.desk import Desk
from slipsights.plans import Go, If, Plan, See, Stop, While
from slipsights.robots import Robot
from slipsights.runs import play
from slipsights.sites import Mark, Room, Site
from slipsights.spans import Span

RESERVED = [
    "start", "go", "if", "else", "while", "see", "stop", "end",
    "barred", "halted", "never", "astray", "endless",
]
NAMES = ["a", "z", "hall", "lamp", "zzzzzz", "goal", "starts", "ends", "x"]
NO_NAMES = [
    "", "abcdefg", "Hall", "hAll", "hall1", "ha ll", " hall", "hall ", "ha-ll", "h_l", "h{l", "h`l",
    "hall\n", "h\u00e9", "\u00aa", "\u0430", None, 0, 1, True, ["a"], ("a",), ("h", "a"),
] + RESERVED
CELLS = [(0, 0), (-3, 7), (99, -99), (10 ** 20, 0)]
NO_CELLS = [
    [0, 0], (0,), (), (0, 0, 0), (0, True), (False, 0), ("0", 0), (0, None), ((0, 0), 0), ((0, 0), (0, 0)),
    None, 5, True, "00", "ab", [],
]
NO_INTEGERS = [True, False, None, "1", "", [1], (1,), (), []]
NO_SEQUENCES = [None, 0, 1, True, False, "", "ab"]


def deep(value, depth=7):
    """A value within lists and tuples."""
    for k in range(depth):
        value = [value] if k % 2 else (value,)
    return value


def is_pair(value):
    """Whether a value is a tuple of two integers, told in another way than the program does."""
    return type(value) is tuple and [type(number) for number in value] == [int, int]


def objects():
    """One object of each class of the package that a caller can have."""
    site = Site((2, 2), (0, 0, 0), [Room("hall", (0, 0), (1, 1))], [Mark("lamp", (0, 0), (1, 1), 0)])
    go = Go("east", 1)
    plan = Plan((0, 0), 0, [go])
    return [
        site, site.rooms[0], site.marks[0], go, If("x < 5", []), While("x < 5", [go]), See("lamp", []),
        Stop("hall"), plan, play(site, plan, []), Span((0, 1), (0, 1), (0, 1)), Span((1, 0), (0, 1), (0, 1)),
        Cells(), Cells([(0, 0)]), Robot(site, plan), Robot(site, plan).trial(), Desk(),
    ]


def any_values():
    """Values of all the kinds that the document calls any value."""
    plain = NO_CELLS + CELLS + NO_NAMES + NAMES + NO_INTEGERS + NO_SEQUENCES + [-1, 2, 10 ** 30]
    return plain + objects() + [deep(value) for value in [0, None, "a"] + objects()]
