"""MEETINGS and DATES: where those who part in a round meet next."""

from partedmeet.dealings import all_deeds, next_of, nexts_of, rounds_with
from partedmeet.ways import led, reached, road_table, shortest_in


def meetings(dealing, name, word, one, other):
    """returns the ascending tuple of the MEETINGS of one with other behind a RESULT"""
    return _ahead_and_meetings(dealing, name, word, one, other)[1]


def ahead(dealing, name, word, one, other):
    """returns the ascending tuple of the rounds through which one may be led ahead of the MEETINGS"""
    return _ahead_and_meetings(dealing, name, word, one, other)[0]


def road_to_meeting(dealing, name, word, one, other, meeting):
    """returns a shortest ROAD of one from its next to a meeting, of which no earlier round wants other"""
    return shortest_in(_cut_roads(dealing, one, other), next_of(dealing, name, word, one), meeting)


def are_meetings(dealing, name, word, one, other, thing):
    """tells whether any value is the tuple (ahead, meetings) of both"""
    return thing == _ahead_and_meetings(dealing, name, word, one, other)


def is_single(dealing, name, word, one, other):
    """tells whether the DATE is SINGLE"""
    return date(dealing, name, word, one, other) is not None


def date(dealing, name, word, one, other):
    """returns the round of a SINGLE DATE, None if it is not SINGLE"""
    return _common(meetings(dealing, name, word, one, other), meetings(dealing, name, word, other, one))


def dates(dealing):
    """returns the dict from each (round, word, one, other), of LED rounds, to what date returns"""
    return {key: _common(side[1], facing[1]) for key, side, facing in partings(dealing)}


def date_fault(dealing):
    """returns the least (round, word, one, other) whose DATE is not SINGLE, None if there is none"""
    for key, side, facing in partings(dealing):
        if _common(side[1], facing[1]) is None:
            return key
    return None


def partings(dealing):
    """tells all ((round, word, one, other), (ahead, meetings), (ahead, meetings)), ascending

    Of LED rounds, with one less than other; the (ahead, meetings) are those of one with other, and of other with one.
    """
    names = led(dealing)
    roads = {}
    known = {}
    for name, word in all_deeds(dealing):
        places = nexts_of(dealing, name, word) if name in names else {}
        for one, other in _couples(places):
            if one < other:
                side = _known_parted(dealing, roads, known, (one, other, places[one]))
                facing = _known_parted(dealing, roads, known, (other, one, places[other]))
                yield ((name, word, one, other), side, facing)


def _cut_roads(dealing, one, other):
    """returns the road table of one, in which no round that wants other leads on"""
    roads = road_table(dealing, one)
    shared = rounds_with(dealing, other)
    return {name: () if name in shared else roads[name] for name in roads}


def _ahead_and_meetings(dealing, name, word, one, other):
    roads = _cut_roads(dealing, one, other)
    return _parted(roads, rounds_with(dealing, other), next_of(dealing, name, word, one))


def _parted(roads, shared, start):
    """returns the tuple of the rounds to which cut roads lead that are not shared, and of those that are"""
    names = reached(roads, (start,))
    between = tuple([there for there in names if there not in shared])
    return (between, tuple([there for there in names if there in shared]))


def _known_parted(dealing, roads, known, key):
    """returns the (ahead, meetings) of (one, other, round) from this round of one on; puts it to what is known"""
    # Many RESULTS lead to the same rounds, and where a DATE is not SINGLE those behind it are not asked for.
    one, other, start = key
    if (one, other) not in roads:
        roads[(one, other)] = (_cut_roads(dealing, one, other), rounds_with(dealing, other))
    if key not in known:
        table, shared = roads[(one, other)]
        known[key] = _parted(table, shared, start)
    return known[key]


def _couples(parties):
    """returns the ascending list of all (one, other) of unlike ones of ascending parties"""
    return [(one, other) for one in parties for other in parties if one != other]


def _common(some, others):
    """returns the round, if some and others are one and the same single round, otherwise None"""
    return some[0] if len(some) == 1 and some == others else None
