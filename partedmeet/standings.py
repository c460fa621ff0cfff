"""STANDINGS, and the DEEDS that can be done in them."""

from partedmeet.errors import NoDeed


def first_standing(dealing):
    """returns the FIRST STANDING"""
    return tuple([(party, "first") for party in dealing[0]])


def end_standing(dealing):
    """returns the END"""
    return tuple([(party, "last") for party in dealing[0]])


def place_of(standing, party):
    """returns the round at which a party waits"""
    return dict(standing)[party]


def open_rounds(dealing, standing):
    """returns the ascending tuple of the rounds that are OPEN in a STANDING"""
    return tuple([part[0] for part in _open_parts(dealing, standing)])


def steps_on(dealing, standing):
    """returns the dict, ascending, from the DEEDS that can be done to the STANDINGS they lead to"""
    return {
        (part[0], word): _moved(standing, dict(nexts))
        for part in _open_parts(dealing, standing)
        for word, nexts in part[3]
    }


def deeds_of(dealing, standing):
    """returns the ascending tuple of the DEEDS that can be done in a STANDING"""
    return tuple([(part[0], result[0]) for part in _open_parts(dealing, standing) for result in part[3]])


def can_be_done(dealing, standing, deed):
    """tells whether a DEED, perhaps of no round or RESULT, can be done in a STANDING"""
    return deed in deeds_of(dealing, standing)


def done(dealing, standing, deed):
    """returns the STANDING to which a DEED leads"""
    behind = steps_on(dealing, standing).get(deed)
    if behind is None:
        raise NoDeed(0)
    return behind


def _open_parts(dealing, standing):
    """returns the list of the ROUNDS that are OPEN in a STANDING"""
    places = dict(standing)
    return [part for part in dealing[1] if part[0] != "last" and _all_wait_at(places, part)]


def _all_wait_at(places, part):
    return all([places[party] == part[0] for party in part[1]])


def _moved(standing, nexts):
    return tuple([(party, nexts.get(party, at)) for party, at in standing])
