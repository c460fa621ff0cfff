"""CIRCLES and KNOTS of rounds, and their HEADS."""

from partedmeet.dealings import lot_of
from partedmeet.ways import is_way, reached, shortest_in, step_table, table_within


def knots(dealing, lot):
    """returns the ascending tuple of the KNOTS of a lot of rounds"""
    table = table_within(step_table(dealing), lot)
    behind = {name: reached(table, table[name]) for name in lot}
    found = {}
    for name in lot:
        if name in behind[name]:
            knot = tuple([other for other in behind[name] if name in behind[other]])
            found[knot] = True
    return tuple(sorted(found))


def head_of(dealing, lot):
    """returns the least round of a lot that wants all that some round of it wants, None if there is none"""
    return min(_heads(dealing, lot), default=None)


def circle_through(dealing, knot):
    """returns a CIRCLE from the least round of a KNOT through all its rounds, and through no others"""
    if len(knot) == 1:
        return knot + knot
    table = table_within(step_table(dealing), knot)
    circle = knot[:1]
    for name in knot[1:]:
        if name not in circle:
            circle = circle + shortest_in(table, circle[-1], name)[1:]
    return circle + shortest_in(table, circle[-1], knot[0])[1:]


def is_circle(dealing, thing):
    """tells whether any value is a CIRCLE"""
    return is_way(dealing, thing) and len(thing) > 1 and thing[0] == thing[-1]


def heads_of(dealing, circle):
    """returns the ascending tuple of all HEADS of a CIRCLE"""
    return tuple(sorted(set(_heads(dealing, circle))))


def _heads(dealing, names):
    """returns the list of those rounds that want all that some of the rounds wants"""
    lots = [lot_of(dealing, name) for name in names]
    wanted = [party for party in dealing[0] if any([party in lot for lot in lots])]
    return [name for name in names if len(lot_of(dealing, name)) == len(wanted)]
