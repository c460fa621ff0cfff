"""ROPES to the END, counted and listed."""

from partedmeet.dealings import all_deeds
from partedmeet.errors import TooMany
from partedmeet.knots import knots
from partedmeet.rulerows import reckoned
from partedmeet.standings import first_standing, steps_on
from partedmeet.ways import led

MOST_ROPES = 2000


def is_endless(dealing):
    """tells whether there is a KNOT of the LED rounds, and so there are ropes beyond number"""
    return knots(dealing, led(dealing)) != ()


def many_ropes(dealing):
    """returns the number of all ROPES, None if they are beyond number"""
    return reckoned(dealing, {deed: 1 for deed in all_deeds(dealing)}, _merged, _joined, _looped)


def all_ropes(dealing):
    """returns the ascending list of all ROPES, None if they are beyond number"""
    if is_endless(dealing):
        return None
    # What is OPEN stays so until it is done: doing the least OPEN round each time goes along least ropes alone.
    ended = []
    waiting = [((), first_standing(dealing))]
    while waiting:
        longer = []
        for deeds, standing in waiting:
            steps = _least_steps(dealing, standing)
            longer.extend([(deeds + (deed,), behind) for deed, behind in steps])
            if not steps:
                ended.append(deeds)
        if len(ended) + len(longer) > MOST_ROPES:
            raise TooMany(MOST_ROPES)
        waiting = longer
    return sorted(ended)


def _merged(one, other):
    return one + other


def _joined(one, other):
    return one * other


def _looped(one, loop):
    """returns None: there is another rope each time that the loop is gone"""
    return None


def _least_steps(dealing, standing):
    """returns the list of tuples (deed, standing) of the DEEDS of the least OPEN round"""
    steps = list(steps_on(dealing, standing).items())
    return [(deed, behind) for deed, behind in steps if deed[0] == steps[0][0][0]]
