"""RULE ROWS: rows of RULES that lead to a BARE DEALING."""

from partedmeet.dealings import all_deeds, results_of
from partedmeet.errors import NoRule, NoSound, TooMany
from partedmeet.headtrees import head_tree
from partedmeet.rules import applied, cuts, drops, fresh_couples, is_bare, is_rule
from partedmeet.sound import fault

MOST_RESULTS = 400


def applied_row(dealing, row):
    """returns the DEALING to which a row of any values leads, each being a RULE behind those ahead"""
    here = dealing
    for index, rule in enumerate(row):
        if not is_rule(here, rule):
            raise NoRule(index)
        here = applied(here, rule)
    return here


def is_rule_row(dealing, thing):
    """tells whether any value is a RULE ROW of a DEALING"""
    if not isinstance(thing, tuple):
        return False
    try:
        return is_bare(applied_row(dealing, thing))
    except NoRule:
        return False


def rule_row(dealing):
    """returns a RULE ROW of a SOUND DEALING"""
    why = fault(dealing)
    if why is not None:
        raise NoSound(why)
    row = []
    here = dealing
    _check_size(here)
    while not is_bare(here):
        row.append(_following(here))
        here = applied(here, row[-1])
        _check_size(here)
    return tuple(row)


def reckoned(dealing, worths, merged, joined, looped):
    """returns the worth of the one RESULT to which the RULE ROW of a SOUND DEALING leads

    worths are those of all RESULTS. merged tells the worth of two with the same nexts, joined that of one and another
    one behind it, looped that of one ahead of which another one perhaps leads all back, again and again. None is a
    worth that is beyond number, and makes all that it is part of so.
    """
    here = dealing
    found = {deed: worths[deed] for deed in worths}
    for rule in rule_row(dealing):
        _reckon(here, rule, found, merged, joined, looped)
        here = applied(here, rule)
    return found[all_deeds(here)[0]]


def _reckon(dealing, rule, found, merged, joined, looped):
    """changes the worths of the RESULTS of a DEALING to those behind a RULE"""
    if rule[0] == "drop":
        return
    name, word = rule[1:3]
    own = found.pop((name, word))
    if rule[0] == "merge":
        found[(name, word)] = _told_by(merged, own, found[(name, rule[3])])
    elif rule[0] == "iterate":
        for other in results_of(dealing, name):
            if other != word:
                found[(name, other)] = _told_by(looped, found[(name, other)], own)
    else:
        for fresh, other in fresh_couples(dealing, rule):
            found[(name, fresh)] = _told_by(joined, own, found[(rule[3], other)])


def _told_by(teller, one, other):
    return None if one is None or other is None else teller(one, other)


def _check_size(dealing):
    if len(all_deeds(dealing)) > MOST_RESULTS:
        raise TooMany(MOST_RESULTS)


def _following(dealing):
    """returns the RULE that comes next on the way from a SOUND DEALING to a BARE one"""
    plain = drops(dealing) or _doubles(dealing) or _loops(dealing)
    return plain[0] if plain else _cut(dealing)


def _doubles(dealing):
    """returns the list of the merges of each RESULT with the first one of its round that has the same nexts"""
    found = []
    for name, _, _, results in dealing[1]:
        words = {}
        for word, nexts in results:
            if nexts in words:
                found.append(("merge", name, words[nexts], word))
            else:
                words[nexts] = word
    return found


def _loops(dealing):
    """returns the list of all iterates"""
    tries = [("iterate", part[0], result[0]) for part in dealing[1] for result in part[3]]
    return [rule for rule in tries if is_rule(dealing, rule)]


def _cut(dealing):
    """returns the shortcut that comes next, where nothing can be dropped, merged or iterated"""
    heads = _heads_in(head_tree(dealing))
    # Without the HEADS there are no circles, and no shortcut makes one: so cutting other rounds short comes to an end.
    # The fewer RESULTS such a round has, the fewer come; and with one alone there are never more than ahead.
    fits = [(len(results_of(dealing, rule[3])), rule) for rule in cuts(dealing) if rule[3] not in heads]
    return min(fits)[1]


def _heads_in(tree):
    """returns the list of all HEADS in a TREE"""
    found = []
    left = list(tree)
    while left:
        _, head, inner = left.pop()
        found.append(head)
        left.extend(inner)
    return found
