"""CERTIFICATES: what shows that a DEALING is SOUND, or that it is not; and WALLS and RINGS."""

from partedmeet.dates import partings
from partedmeet.dealings import lot_of, results_of
from partedmeet.forms import are_names, is_integer
from partedmeet.headtrees import head_tree
from partedmeet.homeward import choices, home_deed
from partedmeet.runs import is_run, run, runs_to_met
from partedmeet.sound import is_sound
from partedmeet.standings import done, end_standing, first_standing, open_rounds, place_of
from partedmeet.ways import led, reached, road_length, road_table, shortest_in


def certificate(dealing):
    """returns a CERTIFICATE of a DEALING"""
    if is_sound(dealing):
        return _sound_certificate(dealing)
    roads = _roads(dealing)
    # [6]: where a DEALING is not SOUND, some MET STANDING has a WALL or a RING.
    for standing, deeds in runs_to_met(dealing):
        why = _flaw_in(roads, standing)
        if why is not None:
            return ("unsound", deeds, why)


def is_certificate(dealing, thing):
    """tells whether any value is a CERTIFICATE of a DEALING"""
    if not isinstance(thing, tuple) or not thing:
        return False
    if thing[0] == "sound":
        return is_sound(dealing) and _is_same_certificate(thing, _sound_certificate(dealing))
    start = first_standing(dealing)
    if thing[0] != "unsound" or len(thing) != 3 or not is_run(dealing, start, thing[1]):
        return False
    return _is_flaw(dealing, run(dealing, start, thing[1]), thing[2])


def walled(dealing, standing, party, thing):
    """tells whether any value is a WALL of a party in a STANDING"""
    roads = road_table(dealing, party)
    if not are_names(thing) or "last" in thing or place_of(standing, party) not in thing:
        return False
    return all([name in roads and all([there in thing for there in roads[name]]) for name in thing])


def is_ring(dealing, standing, thing):
    """tells whether any value is a RING in a STANDING"""
    if not isinstance(thing, tuple) or len(thing) < 2:
        return False
    if not all([party in dealing[0] for party in thing]) or len(set(thing)) < len(thing):
        return False
    waited = _waited_for(_roads(dealing), standing)
    return all([other in waited[one] for one, other in zip(thing, thing[1:] + thing[:1])])


def wall(dealing, standing, party):
    """returns the least WALL of a party in a STANDING, None if there is none"""
    return _around(road_table(dealing, party), place_of(standing, party))


def ring(dealing, standing):
    """returns a RING of as few parties as possible in a STANDING, None if there is none"""
    return _ring_in(_roads(dealing), standing)


def flaw(dealing, standing):
    """returns the WALL of the least party that has one, otherwise a RING, otherwise None"""
    return _flaw_in(_roads(dealing), standing)


def led_to(dealing, way):
    """returns the (run, is_open) of a WAY from `first`: the RUN along it, and whether its last round is come to"""
    chosen = choices(dealing)
    here = first_standing(dealing)
    deeds = []
    for name, there in zip(way, way[1:]):
        deed = (name, _word_towards(dealing, name, there))
        while deed is not None:
            deeds.append(deed)
            here = done(dealing, here, deed)
            deed = None if _is_come_to(dealing, here, there) else home_deed(dealing, here, chosen)
        if not _is_come_to(dealing, here, there):
            return (tuple(deeds), False)
    return (tuple(deeds), True)


def _sound_certificate(dealing):
    lengths = []
    for name in led(dealing):
        for party in lot_of(dealing, name):
            lengths.append((name, party, road_length(dealing, party, name)))
    table = []
    for key, (lot, meetings), (more, _) in partings(dealing):
        table.append((*key, meetings[0], lot, more))
    return ("sound", tuple(lengths), tuple(table), head_tree(dealing))


def _is_same_certificate(thing, wanted):
    # True == 1 in Python: what is equal may still have truths for lengths.
    return thing == wanted and all([is_integer(length) for _, _, length in thing[1]])


def _is_flaw(dealing, standing, why):
    """tells whether any value is ("wall", party, rounds) or ("ring", parties) of a STANDING"""
    if not isinstance(why, tuple) or len(why) not in (2, 3):
        return False
    if len(why) == 2:
        return why[0] == "ring" and is_ring(dealing, standing, why[1])
    return why[0] == "wall" and why[1] in dealing[0] and walled(dealing, standing, why[1], why[2])


def _roads(dealing):
    """returns the dict from all parties to the tables of their ROADS"""
    return {party: road_table(dealing, party) for party in dealing[0]}


def _flaw_in(roads, standing):
    for party, at in standing:
        names = _around(roads[party], at)
        if names is not None:
            return ("wall", party, names)
    parties = _ring_in(roads, standing)
    return None if parties is None else ("ring", parties)


def _around(table, at):
    """returns the least WALL around a round in the table of a party's ROADS, None if there is none"""
    # A WALL has with each round all to which a ROAD leads from it: so these alone are the least one.
    names = reached(table, (at,))
    return None if "last" in names else names


def _waited_for(roads, standing):
    """returns the dict from all parties to the lists of those for which they wait, while these wait elsewhere"""
    return {
        one: [other for other, there in standing if there != at and at in roads[other]]
        for one, at in standing
    }


def _ring_in(roads, standing):
    waited = _waited_for(roads, standing)
    found = []
    for one in waited:
        for other in waited[one]:
            row = shortest_in(waited, other, one)
            if row is not None:
                found.append((len(row), row))
    return min(found)[1] if found else None


def _is_come_to(dealing, standing, name):
    if name == "last":
        return standing == end_standing(dealing)
    return name in open_rounds(dealing, standing)


def _word_towards(dealing, name, there):
    """returns the least word by which some party goes from a round to there"""
    results = results_of(dealing, name)
    return min([word for word in results if any([place == there for _, place in results[word]])])
