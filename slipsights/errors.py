"""The errors of the package."""


class SightError(ValueError):
    """The base class of what is wrong with an argument."""


class InvalidSite(SightError):
    """A room, a mark or a site that cannot be: `word` tells what is wrong."""

    def __init__(self, word):
        self.word = word


class InvalidRow(SightError):
    """A row of a plan that cannot be: `word` is the argument that is wrong."""

    def __init__(self, word):
        self.word = word


class InvalidPlan(SightError):
    """A plan that cannot be: `word` is the argument that is wrong."""

    def __init__(self, word):
        self.word = word


class InvalidText(SightError):
    """A text that is none: `at` is the number of the first wrong line."""

    def __init__(self, at):
        self.at = at


class InvalidRun(SightError):
    """Pairs that are no run: `at` is the number of the first wrong one."""

    def __init__(self, at):
        self.at = at


class InvalidSpan(SightError):
    """A span that cannot be: `word` is the argument that is wrong."""

    def __init__(self, word):
        self.word = word


class InvalidCells(SightError):
    """Cells that are none: `at` is the number of the first wrong one."""

    def __init__(self, at):
        self.at = at


class InvalidCommand(SightError):
    """A command that a desk cannot do."""

    def __init__(self):
        # ValueError alone would take any arguments; this one takes none.
        pass


class Mismatch(SightError):
    """A plan that does not fit a site: `name` is what the site lacks."""

    def __init__(self, name):
        self.name = name


class Refused(SightError):
    """A deed that a robot refuses: `word` tells why."""

    def __init__(self, word):
        self.word = word


class NoRow(IndexError):
    """A plan has no row with the number `at`."""

    def __init__(self, at):
        self.at = at


class NoName(KeyError):
    """A site has nothing with this name."""

    def __init__(self, name):
        self.name = name
