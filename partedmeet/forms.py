"""What tells of any value whether it is a NAME, a FRACTION, a DEALING, a STANDING .."""

from math import gcd

MOST_LETTERS = 12


def is_integer(thing):
    """tells whether any value is an integer, True and False being none"""
    return isinstance(thing, int) and not isinstance(thing, bool)


def is_name(thing):
    """tells whether any value is a NAME"""
    if not isinstance(thing, str) or not 1 <= len(thing) <= MOST_LETTERS:
        return False
    return all(["a" <= letter <= "z" for letter in thing])


def is_fraction(thing):
    """tells whether any value is a FRACTION"""
    if not _is_tuple_of(thing, 2) or not is_integer(thing[0]) or not is_integer(thing[1]):
        return False
    return thing[1] >= 1 and gcd(thing[0], thing[1]) == 1


def reduced(num, den):
    """returns the FRACTION that is num by den"""
    common = gcd(num, den)
    if den < 0:
        common = -common
    return (num // common, den // common)


def is_deed(thing):
    """tells whether any value is a tuple of two NAMES"""
    return _is_tuple_of(thing, 2) and is_name(thing[0]) and is_name(thing[1])


def are_deeds(thing):
    """tells whether any value is a tuple of tuples of two NAMES, perhaps ()"""
    return isinstance(thing, tuple) and all([is_deed(part) for part in thing])


def are_names(thing):
    """tells whether any value is an ascending tuple of NAMES, at least one"""
    if not isinstance(thing, tuple) or not thing:
        return False
    return all([is_name(part) for part in thing]) and _ascend(thing)


def is_lot(dealing, thing):
    """tells whether any value is an ascending tuple of parties of the DEALING, at least one"""
    return are_names(thing) and all([party in dealing[0] for party in thing])


def is_standing(dealing, thing):
    """tells whether any value is a STANDING of the DEALING"""
    if not are_deeds(thing) or [pair[0] for pair in thing] != list(dealing[0]):
        return False
    lots = _lots(dealing[1])
    return all([party in lots.get(at, ()) for party, at in thing])


def is_dealing(thing):
    """tells whether any value is a DEALING"""
    if not _is_tuple_of(thing, 2) or not are_names(thing[0]) or not isinstance(thing[1], tuple):
        return False
    parties, rounds = thing
    if not all([_has_round_form(part) for part in rounds]):
        return False
    if not _ascend([part[0] for part in rounds]) or not all([is_lot(thing, part[1]) for part in rounds]):
        return False
    return _ends_are_right(parties, rounds) and _nexts_are_right(rounds)


def _is_tuple_of(thing, many):
    return isinstance(thing, tuple) and len(thing) == many


def _ascend(names):
    return all([one < other for one, other in zip(names, names[1:])])


def _has_round_form(thing):
    """tells whether any value is a ROUND, if its parties and nexts are those of the DEALING"""
    if not _is_tuple_of(thing, 4) or not is_name(thing[0]) or not are_names(thing[1]):
        return False
    _, lot, chooser, results = thing
    if chooser not in lot or not isinstance(results, tuple):
        return False
    if not all([_has_result_form(lot, result) for result in results]):
        return False
    return _ascend([result[0] for result in results])


def _has_result_form(lot, thing):
    """tells whether any value is a RESULT of a round with this lot, if its nexts are right"""
    if not _is_tuple_of(thing, 2) or not is_name(thing[0]) or not are_deeds(thing[1]):
        return False
    return [pair[0] for pair in thing[1]] == list(lot)


def _lots(rounds):
    return {part[0]: part[1] for part in rounds}


def _ends_are_right(parties, rounds):
    """tells whether `first` and `last` are there and want all, and just `last` has no results"""
    lots = _lots(rounds)
    if lots.get("first") != parties or lots.get("last") != parties:
        return False
    return all([(len(part[3]) == 0) == (part[0] == "last") for part in rounds])


def _nexts_are_right(rounds):
    """tells whether each next is a round that wants the party"""
    lots = _lots(rounds)
    pairs = [pair for part in rounds for result in part[3] for pair in result[1]]
    return all([party in lots.get(there, ()) for party, there in pairs])
