"""Sites and plans that are drawn, small enough for a search through all runs."""

from slipsights.plans import Go, If, Plan, See, Stop, While
from slipsights.sites import Mark, Room, Site

WAYS = ["east", "north", "west", "south"]


def drawn_site(draw, most=5, blurs=(0, 0, 1), names="lm"):
    """A site with rooms `a`, `b`, `c` and landmarks with these names; some reach out of the yard."""
    width, height = draw.randint(2, most), draw.randint(1, most - 1)

    def box(reach):
        x, y = draw.randint(-1, width - 1), draw.randint(-1, height - 1)
        return (x, y), (x + draw.randint(0, reach), y + draw.randint(0, reach))

    rooms = [Room(name, *box(2), draw.random() < 0.2) for name in "abc"]
    marks = [Mark(name, *box(most), draw.choice(blurs)) for name in names]
    slips = draw.choice([(0, 0, 0), (0, 0, 0), (0, 1, 0), (1, 0, 0), (0, 0, 1), (1, 1, 0), (1, 1, 1)])
    return Site((width, height), slips, rooms, marks)


def drawn_plan(draw, site, least=1, most=8):
    """A plan with so many rows that begins in the yard."""
    start = draw.randrange(site.size[0]), draw.randrange(site.size[1])
    while True:
        plan = Plan(start, draw.choice([0, 0, 0, 1]), drawn_rows(draw, site, 2))
        if least <= len(plan) <= most:
            return plan


def drawn_rows(draw, site, depth):
    rows = []
    for _ in range(draw.randint(0, 3)):
        rows.extend(drawn_part(draw, site, depth))
    return rows


def drawn_part(draw, site, depth):
    """One row, or two steps there and back about some rows."""
    test = f"{draw.choice('xy')} {draw.choice(['<', '>='])} {draw.randint(0, max(site.size))}"
    way = draw.randrange(4)
    go = Go(WAYS[way], draw.choice([1, 1, 2, 3]))
    back = Go(WAYS[way - 2], go.steps)
    kind = draw.choice("ggbs" if depth == 0 else "ggbsiwwvvmmm")
    if kind == "b":
        return [go, back]
    if kind == "i":
        return [If(test, drawn_rows(draw, site, depth - 1), drawn_rows(draw, site, depth - 1))]
    if kind == "w":
        return [While(test, [go] + drawn_rows(draw, site, depth - 1))]
    if kind == "v":
        return [While(test, [go] + drawn_rows(draw, site, depth - 1) + [back])]
    if kind == "m":
        return [See(draw.choice(site.marks).name, drawn_rows(draw, site, depth - 1), drawn_rows(draw, site, depth - 1))]
    return [Stop(draw.choice("abc")) if kind == "s" else go]
