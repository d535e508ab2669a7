"""What robots can know, by a plain search: all runs that show the same, one by one and pair by pair.

A deed is a tuple ("step",), ("sight", belief) or ("miss",). A run that goes on is a tuple (row, done, belief,
place), as in `search`, but it waits at each `See`; one that has ended is a tuple (word, belief, place)."""

from slipsights.plans import Go, If, See, Stop, While
from tests.search import AHEAD, Search, asks, is_end, square


class Views:
    """The runs of a plan, by what they show of themselves."""

    def __init__(self, site, plan):
        self.search = Search(site, plan)
        self.begun = []
        for error in square(plan.blur):
            place = (plan.start[0] + error[0], plan.start[1] + error[1])
            if not self.search.barred(place):
                self.begun.append(self.settled(self.search.top, plan.start, place))

    def settled(self, todo, belief, place):
        """Where a run that has these rows to do comes to a deed or ends."""
        while todo:
            number, todo = todo[0], todo[1:]
            row = self.search.rows[number]
            if isinstance(row, Stop):
                return (row.room, belief, place)
            if isinstance(row, Go):
                return self.search.at_step(number, 0, belief, place)
            if isinstance(row, See):
                return (number, 0, belief, place)
            if asks(row.test, belief):
                again = (number,) if isinstance(row, While) else ()
                todo = self.search.inner[number][0] + again + todo
            elif isinstance(row, If):
                todo = self.search.inner[number][1] + todo
        return ("end", belief, place)

    def behind(self, run):
        """A list of tuples of a deed and the run behind it; the deed is None if the run is barred."""
        number, done, belief, place = run
        if isinstance(self.search.rows[number], Go):
            return self.behind_step(number, done, belief, place)
        mark, todo = self.search.mark(self.search.rows[number].mark), self.search.todo[number]
        if not self.search.sees(mark.name, place):
            return [(("miss",), self.settled(self.search.inner[number][1] + todo, belief, place))]
        found = []
        for error in square(mark.blur):
            seen = (place[0] - error[0], place[1] - error[1])
            if self.search.inside(seen):
                found.append((("sight", seen), self.settled(self.search.inner[number][0] + todo, seen, place)))
        return found

    def behind_step(self, number, done, belief, place):
        row = self.search.rows[number]
        ahead = AHEAD[row.way]
        back, forth, side = self.search.site.slips
        belief = (belief[0] + ahead[0], belief[1] + ahead[1])
        found = []
        for along in range(1 - back, 2 + forth):
            for across in range(-side, side + 1):
                spot = (
                    place[0] + along * ahead[0] + across * ahead[1], place[1] + along * ahead[1] + across * ahead[0],
                )
                if self.search.barred(spot):
                    found.append((None, ("barred", belief, spot)))
                elif done + 1 < row.steps:
                    found.append((("step",), self.search.at_step(number, done + 1, belief, spot)))
                else:
                    found.append((("step",), self.settled(self.search.todo[number], belief, spot)))
        return found

    def by_deed(self, runs):
        """A dict from the deeds that can come next to the sets of the runs behind them."""
        found = {}
        for run in runs:
            for deed, behind in [] if is_end(run) else self.behind(run):
                if deed is not None:
                    found.setdefault(deed, set()).add(behind)
        return found

    def faults_ahead(self, runs):
        """The faults that one of these runs can have in the end."""
        edges, todo, faults = {}, list(runs), set()
        while todo:
            run = todo.pop()
            if is_end(run):
                faults.add(self.search.fault(run))
            elif run not in edges:
                edges[run] = [behind for _, behind in self.behind(run)]
                todo.extend(edges[run])
        if has_circle({run: [one for one in behind if not is_end(one)] for run, behind in edges.items()}):
            faults.add("endless")
        return faults - {None}


def has_circle(edges):
    """Whether some way along the edges comes to where it was: take away what leads nowhere, as long as there is some."""
    while True:
        left = {one: [other for other in behind if other in edges] for one, behind in edges.items()}
        left = {one: behind for one, behind in left.items() if behind}
        if len(left) == len(edges):
            return len(left) > 0
        edges = left
