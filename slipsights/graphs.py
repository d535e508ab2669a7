"""All standings of a plan one by one, and where each pair leads from each of them."""

from slipsights.bounds import greater


class Graph:
    """Each standing has a number, 0 ahead of all pairs; its edges are tuples of a pair and the number of the
    standing behind it, or None where the run ends."""

    def __init__(self, course):
        self.edges = []
        self._course = course
        self._standings = [course.first()]
        self._numbers = {}
        while len(self.edges) < len(self._standings):
            self.edges.append(self._edges_from(self._standings[len(self.edges)]))
        self.heights = _heights(self.edges)

    def _edges_from(self, standing):
        edges = []
        for pair in self._course.pairs_at(standing):
            behind = self._course.behind(standing, pair)
            if behind is not None:
                edges.append((pair, self._number_of(behind)))
        return edges

    def _number_of(self, standing):
        if standing.ended is not None:
            return None
        key = (standing.row, standing.done, standing.belief, standing.place)
        if key not in self._numbers:
            self._numbers[key] = len(self._standings)
            self._standings.append(standing)
        return self._numbers[key]

    def ring(self):
        """Some pairs that lead to a standing and then back to it, or None if there are no such."""
        if self.heights[0] is not None:
            return None
        found = {}
        pairs = []
        number = 0
        while number not in found:
            found[number] = len(pairs)
            # A run from here need never end, so this holds for one of the next standings, too.
            pair, number = [edge for edge in self.edges[number] if self._is_endless(edge)][0]
            pairs.append(pair)
        return (tuple(pairs[:found[number]]), tuple(pairs[found[number]:]))

    def _is_endless(self, edge):
        return edge[1] is not None and self.heights[edge[1]] is None


def _heights(edges):
    """For each standing the greatest number of pairs until a run from it ends, or None if one need never end."""
    heights = [None for _ in edges]
    before = [[] for _ in edges]
    open_edges = [0 for _ in edges]
    for number, ahead in enumerate(edges):
        for _, target in ahead:
            if target is not None:
                before[target].append(number)
                open_edges[number] += 1
    ready = [number for number in range(len(edges)) if open_edges[number] == 0]
    while len(ready) > 0:
        number = ready.pop()
        heights[number] = _height(edges[number], heights)
        for earlier in before[number]:
            open_edges[earlier] -= 1
            if open_edges[earlier] == 0:
                ready.append(earlier)
    return heights


def _height(edges, heights):
    most = 0
    for _, target in edges:
        if target is not None:
            most = greater(most, heights[target])
    return most + 1
