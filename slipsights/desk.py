"""Desks: commands that keep a site and a plan and ask what can happen."""

from slipsights.bearing import SLIPS, fewest_marks, widest
from slipsights.cells import ends
from slipsights.deciding import longest, never, shortest
from slipsights.errors import InvalidCommand
from slipsights.plans import Plan
from slipsights.sites import Site

FAULTS = ("barred", "halted", "astray", "endless")


class Desk:
    """What keeps a site and a plan, and the ones that were there ahead of them."""

    def __init__(self):
        self.site = None
        self.plan = None
        self._past = ()

    def say(self, command):
        """Do a command; return what it results in, as a text."""
        if not isinstance(command, str) or "\n" in command or "" in command.split(" "):
            raise InvalidCommand()
        word, _, rest = command.partition(" ")
        if word in ("site", "plan") and rest != "":
            return self._keep(word, rest.replace(" ; ", "\n"))
        if command == "undo":
            return self._undo()
        words = command.split(" ")
        if not _is_question(words) or self.site is None or self.plan is None:
            raise InvalidCommand()
        return _answer(self.site, self.plan, words)

    def _keep(self, word, text):
        """Keep the site or the plan with this text; return how much is in it."""
        site, plan = self.site, self.plan
        if word == "site":
            site = Site.read(text)
            many = len(site.rooms) + len(site.marks)
        else:
            plan = Plan.read(text)
            many = len(plan)
        self._past = self._past + ((self.site, self.plan),)
        self.site = site
        self.plan = plan
        return str(many)

    def _undo(self):
        if len(self._past) == 0:
            return "nothing"
        self.site, self.plan = self._past[-1]
        self._past = self._past[:-1]
        return "undone"

    def __len__(self):
        return len(self._past)


def _is_question(words):
    """Whether words ask something of a site and a plan."""
    if len(words) == 3:
        return words[0] == "widest" and words[1] in SLIPS and words[2] in FAULTS
    if len(words) == 2:
        return words[0] == "ends" or (words[0] in ("never", "marks") and words[1] in FAULTS)
    return words == ["longest"]


def _answer(site, plan, words):
    """The answer to what the words ask."""
    if words[0] == "never":
        return _never_answer(site, plan, words[1])
    if words[0] == "longest":
        most = longest(site, plan)
        return "endless" if most is None else str(most)
    if words[0] == "ends":
        return str(ends(site, plan, words[1]))
    if words[0] == "widest":
        most = widest(site, plan, (words[2],), words[1])
        return "none" if most is None else str(most)
    return _marks_answer(fewest_marks(site, plan, (words[1],)))


def _never_answer(site, plan, fault):
    if fault == "endless":
        return "yes" if never(site, plan, fault) else "no"
    run = shortest(site, plan, fault)
    return "yes" if run is None else f"no {len(run)}"


def _marks_answer(names):
    if names is None:
        return "none"
    return "-" if len(names) == 0 else " ".join(names)
