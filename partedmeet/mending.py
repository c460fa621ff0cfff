"""MENDINGS: RESULTS without which a DEALING is SOUND."""

from itertools import combinations

from partedmeet.dealings import all_deeds, made_dealing
from partedmeet.errors import NoDealing, TooMany
from partedmeet.forms import are_deeds
from partedmeet.sound import is_sound
from partedmeet.ways import led

MOST_LOOKED_AT = 4000


def struck(dealing, deeds):
    """returns the DEALING without the RESULTS of DEEDS"""
    rounds = []
    for name, lot, chooser, results in dealing[1]:
        staying = [(word, nexts) for word, nexts in results if (name, word) not in deeds]
        rounds.append((name, lot, chooser, staying))
    return made_dealing(dealing[0], rounds)


def is_mending(dealing, thing):
    """tells whether any value is a MENDING of a DEALING"""
    if not are_deeds(thing) or list(thing) != sorted(set(thing)):
        return False
    deeds = _led_deeds(dealing)
    return all([deed in deeds for deed in thing]) and _mends(dealing, thing)


def least_mending(dealing):
    """returns the least of the MENDINGS with the fewest DEEDS, None if there is none"""
    deeds = _led_deeds(dealing)
    many = 0
    for length in range(len(deeds) + 1):
        for row in combinations(deeds, length):
            if many == MOST_LOOKED_AT:
                raise TooMany(MOST_LOOKED_AT)
            many = many + 1
            if _mends(dealing, row):
                return row
    return None


def _led_deeds(dealing):
    """returns the ascending list of all DEEDS of LED rounds for which there are RESULTS"""
    names = led(dealing)
    return [deed for deed in all_deeds(dealing) if deed[0] in names]


def _mends(dealing, deeds):
    try:
        return is_sound(struck(dealing, deeds))
    except NoDealing:
        return False
