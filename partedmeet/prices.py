"""SUMS of RUNS: what they cost together by PRICES, at least and at most."""

from partedmeet.dealings import all_deeds
from partedmeet.rulerows import reckoned
from partedmeet.runs import met_steps
from partedmeet.standings import end_standing, first_standing


def sum_of(prices, deeds):
    """returns the SUM of a RUN"""
    return sum([prices[deed] for deed in deeds])


def least_sum(dealing, prices):
    """returns the least SUM of all RUNS to the END, None if there are ever lesser ones"""
    found = _least(dealing, prices)
    return None if found is None else found[0]


def greatest_sum(dealing, prices):
    """returns the greatest SUM of all RUNS to the END, None if there are ever greater ones"""
    found = _least(dealing, _negated(prices))
    return None if found is None else -found[0]


def least_run(dealing, prices):
    """returns a RUN to the END with the least SUM, None if there is none"""
    found = _least(dealing, prices)
    return None if found is None else found[1]


def greatest_run(dealing, prices):
    """returns a RUN to the END with the greatest SUM, None if there is none"""
    return least_run(dealing, _negated(prices))


def sums_slowly(dealing, prices):
    """returns the tuple (least_sum, greatest_sum), by going through all MET STANDINGS"""
    table = met_steps(dealing)
    least = _least_slowly(dealing, table, prices)
    greatest = _least_slowly(dealing, table, _negated(prices))
    return (least, None if greatest is None else -greatest)


def _negated(prices):
    return {deed: -prices[deed] for deed in prices}


def _least(dealing, prices):
    """returns the (SUM, RUN) of a RUN to the END with the least SUM, None if there are ever lesser ones"""
    worths = {deed: (prices[deed], (deed,)) for deed in all_deeds(dealing)}
    return reckoned(dealing, worths, _lesser, _joined, _looped)


def _lesser(one, other):
    return one if one[0] <= other[0] else other


def _joined(one, other):
    return (one[0] + other[0], one[1] + other[1])


def _looped(one, loop):
    """returns what one is with a loop ahead of it, None if this can go ever lower"""
    return None if loop[0] < 0 else one


def _least_slowly(dealing, table, prices):
    """returns the least SUM along a table of all MET STANDINGS, None if there are ever lesser ones"""
    start = first_standing(dealing)
    sums = {start: 0}
    parents = {}
    is_changed = True
    while is_changed:
        is_changed = False
        for standing, steps in table.items():
            for deed, behind in steps.items():
                price = sums[standing] + prices[deed]
                if behind not in sums or price < sums[behind]:
                    sums[behind] = price
                    parents[behind] = standing
                    is_changed = True
        # What came of itself by lesser and lesser SUMS would go on so for ever.
        if _has_circle(parents):
            return None
    return sums[end_standing(dealing)]


def _has_circle(parents):
    """tells whether going from one to its parent, again and again, leads anyone back to itself"""
    looked_at = {}
    for start in parents:
        here = start
        while here in parents and here not in looked_at:
            looked_at[here] = start
            here = parents[here]
        if looked_at.get(here) == start:
            return True
    return False
