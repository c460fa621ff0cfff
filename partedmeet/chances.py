"""CHANCES of RESULTS: how often each round is done, and what RUNS cost, as expected."""

from math import gcd

from partedmeet.dealings import all_deeds, nexts_of, rounds_with, words_of
from partedmeet.forms import is_fraction, reduced
from partedmeet.rulerows import reckoned
from partedmeet.ways import led

NONE = (0, 1)
WHOLE = (1, 1)


def are_chances(dealing, thing):
    """tells whether any value is CHANCES of a dealing"""
    deeds = all_deeds(dealing)
    if not isinstance(thing, dict) or len(thing) != len(deeds) or not all([deed in thing for deed in deeds]):
        return False
    if not all([is_fraction(thing[deed]) and thing[deed][0] > 0 for deed in deeds]):
        return False
    names = [part[0] for part in dealing[1] if part[0] != "last"]
    return all([_added([thing[deed] for deed in deeds if deed[0] == name]) == WHOLE for name in names])


def chance_of(chances, deeds):
    """returns the product of the chances of the DEEDS of a RUN"""
    found = WHOLE
    for deed in deeds:
        found = _times(found, chances[deed])
    return found


def visits(dealing, chances):
    """returns the dict from all LED rounds but `last` to how often each is done, as expected"""
    names = [name for name in led(dealing) if name != "last"]
    found = {}
    for party in dealing[0]:
        wanting = [name for name in rounds_with(dealing, party) if name in names]
        if not all([name in found for name in wanting]):
            found.update(_visits_of(dealing, chances, party, wanting))
    return {name: found[name] for name in names}


def expected_sum(dealing, prices, chances):
    """returns the expected SUM of a RUN to the END"""
    many = visits(dealing, chances)
    rows = [_times(_times(many[deed[0]], chances[deed]), (prices[deed], 1)) for deed in prices if deed[0] in many]
    return _added(rows)


def expected_by_rules(dealing, prices, chances):
    """returns the expected SUM of a RUN to the END, reckoned along the RULE ROW"""
    worths = {}
    for deed in all_deeds(dealing):
        num, den = chances[deed]
        worths[deed] = (num, num * prices[deed], den)
    found = reckoned(dealing, worths, _merged, _joined, _looped)
    return reduced(found[1], found[2])


def _plus(one, other):
    return reduced(one[0] * other[1] + other[0] * one[1], one[1] * other[1])


def _times(one, other):
    return reduced(one[0] * other[0], one[1] * other[1])


def _added(rows):
    found = NONE
    for row in rows:
        found = _plus(found, row)
    return found


def _often(stay):
    """returns 1 / (1 - stay): how often something is done that comes again each time with this chance"""
    return reduced(stay[1], stay[1] - stay[0])


def _visits_of(dealing, chances, party, names):
    """returns the dict from all LED rounds but `last` that want a party to how often it comes to each"""
    flows = {name: _flow(dealing, chances, party, name) for name in names}
    passed = []
    # `first` stays to the end: whatever else is left out, the party begins there, once.
    for name in [at for at in names if at != "first"] + ["first"]:
        onward = flows.pop(name)
        often = _often(onward.pop(name, NONE))
        inward = {}
        for other in list(flows):
            if name in flows[other]:
                inward[other] = flows[other].pop(name)
                _lead_on(flows[other], _times(inward[other], often), onward)
        passed.append((name, often, inward))
    found = {}
    for name, often, inward in passed[::-1]:
        comings = [_times(found[other], chance) for other, chance in inward.items()]
        found[name] = _times(often, WHOLE if name == "first" else _added(comings))
    return found


def _lead_on(flow, chance, onward):
    """changes a flow: what came with this chance to where it goes no more goes on from there"""
    for there in onward:
        flow[there] = _plus(flow.get(there, NONE), _times(chance, onward[there]))


def _flow(dealing, chances, party, name):
    """returns the dict from the nexts of a party, but `last`, to the chances with which it goes there from a round"""
    found = {}
    for word in words_of(dealing, name):
        there = nexts_of(dealing, name, word)[party]
        if there != "last":
            found[there] = _plus(found.get(there, NONE), chances[(name, word)])
    return found


# What follows takes (chance, part, den): a RESULT's chance, and its part of the expected SUM, price times chance, both
# by one den. So each step is shortened once: long numbers are what takes time here.


def _merged(one, other):
    return _shortened(one[0] * other[2] + other[0] * one[2], one[1] * other[2] + other[1] * one[2], one[2] * other[2])


def _joined(one, other):
    return _shortened(one[0] * other[0], one[1] * other[0] + one[0] * other[1], one[2] * other[2])


def _looped(one, loop):
    """returns what one is where a loop ahead of it is left out: what the loop costs is expected with it each time"""
    chance, part, den = loop
    leave = den - chance
    return _shortened(one[0] * den * leave, (one[1] * leave + one[0] * part) * den, one[2] * leave * leave)


def _shortened(chance, part, den):
    common = gcd(chance, part, den)
    return (chance // common, part // common, den // common)
