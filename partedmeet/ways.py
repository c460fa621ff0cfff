"""WAYS of rounds, ROADS of parties, and DISTANCES from `last`."""

from partedmeet.forms import is_name


def steps(dealing, name):
    """returns the ascending tuple of all nexts of a round, for whichever party by whichever RESULT"""
    return step_table(dealing)[name]


def led(dealing):
    """returns the ascending tuple of all LED rounds"""
    return reached(step_table(dealing), ("first",))


def distance(dealing, name):
    """returns the DISTANCE of a round, None if there is none"""
    return _lengths_to_last(step_table(dealing)).get(name)


def distances(dealing):
    """returns the dict from all LED rounds to their DISTANCES"""
    lengths = _lengths_to_last(step_table(dealing))
    return {name: lengths.get(name) for name in led(dealing)}


def shortest_way(dealing, one, other):
    """returns a shortest WAY from one round to another, None if there is none"""
    return shortest_in(step_table(dealing), one, other)


def road_rounds(dealing, party, name):
    """returns the ascending tuple of all rounds to which a ROAD of the party leads from a round"""
    return reached(road_table(dealing, party), (name,))


def shortest_road(dealing, party, name, other):
    """returns a shortest ROAD of the party from one round to another, None if there is none"""
    return shortest_in(road_table(dealing, party), name, other)


def road_length(dealing, party, name):
    """returns the least LENGTH of a ROAD of the party from a round to `last`, None if there is none"""
    return _lengths_to_last(road_table(dealing, party)).get(name)


def is_way(dealing, thing):
    """tells whether any value is a WAY"""
    return _follows(step_table(dealing), thing)


def is_road(dealing, party, thing):
    """tells whether any value is a ROAD of the party"""
    return _follows(road_table(dealing, party), thing)


def step_table(dealing):
    """returns the dict from all rounds to the ascending tuples of their nexts"""
    return {part[0]: _told_in(part, dealing[0]) for part in dealing[1]}


def road_table(dealing, party):
    """returns the dict from all rounds that want the party to the ascending tuples of its own nexts"""
    return {part[0]: _told_in(part, (party,)) for part in dealing[1] if party in part[1]}


def table_within(table, names):
    """returns what of a table is within some of its rounds"""
    return {name: tuple([there for there in table[name] if there in names]) for name in names}


def reached(table, starts):
    """returns the ascending tuple of all rounds to which a table leads from some of these, these too"""
    found = {name: True for name in starts}
    waiting = list(starts)
    while waiting:
        here = waiting.pop()
        for there in table[here]:
            if there not in found:
                found[there] = True
                waiting.append(there)
    return tuple(sorted(found))


def shortest_in(table, one, other):
    """returns a shortest row of rounds from one to other along a table, None if there is none"""
    rows = {one: (one,)}
    edge = [one]
    while edge and other not in rows:
        later = []
        for here in edge:
            for there in table[here]:
                if there not in rows:
                    rows[there] = rows[here] + (there,)
                    later.append(there)
        edge = later
    return rows.get(other)


def _told_in(part, parties):
    """returns the ascending tuple of the nexts of some parties by all RESULTS of a ROUND"""
    pairs = [pair for result in part[3] for pair in result[1]]
    return tuple(sorted({there for party, there in pairs if party in parties}))


def _lengths_to_last(table):
    """returns the dict from the rounds from which a table leads to `last` to the least LENGTHS"""
    found = {"last": 0}
    edge = ["last"]
    length = 0
    while edge:
        length = length + 1
        edge = [name for name in table if name not in found and any([there in found for there in table[name]])]
        for name in edge:
            found[name] = length
    return found


def _follows(table, thing):
    """tells whether any value is a tuple of rounds of a table, at least one, each told by the one ahead"""
    if not isinstance(thing, tuple) or not thing:
        return False
    if not all([is_name(name) and name in table for name in thing]):
        return False
    return all([there in table[here] for here, there in zip(thing, thing[1:])])
