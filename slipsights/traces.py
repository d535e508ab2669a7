"""Single runs out of waves: back from the first place with a fault, wave by wave, to the start."""

from slipsights.grids import lowest_of
from slipsights.plans import WAYS, Go
from slipsights.waves import Waves


def first_run(course, fault):
    """Some run with the fewest pairs that has the fault, as a tuple of pairs, or None."""
    waves = Waves(course)
    waves.begin()
    past = []
    wave = waves.take()
    while len(wave) > 0 and fault not in waves.faulty:
        past.append(wave)
        waves.spread(wave)
        wave = waves.take()
    if fault not in waves.faulty:
        return None
    return _run_back(waves, past, fault)


def _run_back(waves, past, fault):
    """The run through these waves, one for each pair ahead of that with the fault."""
    source, belief, places = waves.faulty[fault]
    place = waves.ground.grid.cell_at(lowest_of(places))
    pairs = []
    for k in reversed(range(len(past))):
        pair, belief, place = _pair_back(waves, past[k], source, belief, place)
        pairs.append(pair)
        if k > 0:
            source = _source_of(waves, past[k - 1], source, belief, place)
    pairs.append((place[0] - belief[0], place[1] - belief[1]))
    pairs.reverse()
    return tuple(pairs)


def _source_of(waves, wave, position, belief, place):
    """Some position of a wave from which one pair leads to this standing at this position."""
    for source in wave:
        at, done = waves.course.after(source[0], source[1])
        behind = waves.course.gone_on(at, done, belief, place)
        if (behind.row, behind.done) == position:
            if _pair_back(waves, wave, source, belief, place) is not None:
                return source
    return None


def _pair_back(waves, wave, source, belief, place):
    """Some pair that leads from a position of a wave to a belief and a place, and those ahead of it, or None."""
    row = waves.course.plan[source[0]]
    if isinstance(row, Go):
        return _step_back(waves, wave[source], row, belief, place)
    return _sight_back(waves, wave[source], row, belief, place)


def _step_back(waves, standings, row, belief, place):
    site = waves.course.site
    way = WAYS[row.way]
    before = (belief[0] - way[0], belief[1] - way[1])
    places = standings.get(before, 0)
    for slip in waves.course.pairs_of(row):
        cell = (place[0] - way[0] - slip[0], place[1] - way[1] - slip[1])
        if site.in_yard(cell) and waves.ground.grid.has(places, cell):
            return (slip, before, cell)
    return None


def _sight_back(waves, standings, row, belief, place):
    error = (place[0] - belief[0], place[1] - belief[1])
    if error not in waves.course.pairs_of(row):
        return None
    for before in standings:
        if waves.ground.grid.has(standings[before], place):
            return (error, before, place)
    return None
