"""Games: whether some of the parties can bring about the END, whatever the others choose."""

from partedmeet.dealings import chooser_of
from partedmeet.forms import are_names
from partedmeet.runs import met_steps
from partedmeet.standings import end_standing, first_standing


def forced(dealing, ours):
    """returns the ascending tuple of the rounds from which we can force `last`"""
    return tuple(sorted(_forcing(dealing, ours, _told_words(dealing))))


def can_force(dealing, ours):
    """tells whether we can bring about the END, whoever tells which OPEN round is next"""
    return "first" in forced(dealing, ours)


def can_force_slowly(dealing, ours, is_foe):
    """tells whether we can bring about the END, by going through all MET STANDINGS"""
    table = met_steps(dealing)
    won = {end_standing(dealing): True}
    # Backwards from those met by most DEEDS, as these are nearer to the END.
    standings = list(table)[::-1]
    many = 0
    while many < len(won):
        many = len(won)
        for standing in standings:
            if standing not in won and _leads_into(dealing, ours, is_foe, table[standing], won):
                won[standing] = True
    return first_standing(dealing) in won


def plan(dealing, ours):
    """returns a PLAN, None if there is none"""
    found = _forcing(dealing, ours, _told_words(dealing))
    if "first" not in found:
        return None
    return {name: found[name] for name in sorted(found) if name != "last" and _is_ours(dealing, ours, name)}


def refusal(dealing, ours):
    """returns a REFUSAL, None if there is none"""
    names = forced(dealing, ours)
    if "first" in names:
        return None
    return tuple([part[0] for part in dealing[1] if part[0] not in names])


def is_plan(dealing, ours, thing):
    """tells whether any value is a PLAN"""
    if not isinstance(thing, dict):
        return False
    words = _told_words(dealing)
    for name, word in thing.items():
        if word not in words.get(name, []) or not _is_ours(dealing, ours, name):
            return False
    planned = {name: [thing[name]] if name in thing else [] for name in words}
    left = {name: planned[name] if _is_ours(dealing, ours, name) else words[name] for name in words}
    return "first" in _forcing(dealing, ours, left)


def is_refusal(dealing, ours, thing):
    """tells whether any value is a REFUSAL"""
    if not are_names(thing) or "first" not in thing or "last" in thing:
        return False
    parts = [part for part in dealing[1] if part[0] in thing]
    return len(parts) == len(thing) and all([_keeps_away(ours, part, thing) for part in parts])


def _is_ours(dealing, ours, name):
    return chooser_of(dealing, name) in ours


def _told_words(dealing):
    """returns the dict from all rounds to the lists of their words"""
    return {part[0]: [result[0] for result in part[3]] for part in dealing[1]}


def _forcing(dealing, ours, words):
    """returns the dict from the rounds from which we can force `last`, by these words, to a word that does so

    The rounds are in the order in which they come to be forced: so the words of ours are a PLAN.
    """
    found = {"last": None}
    many = 0
    while many < len(found):
        many = len(found)
        for name, _, chooser, results in dealing[1]:
            if name not in found:
                good = [word for word, nexts in results if word in words[name] and _all_in(nexts, found)]
                if good and (chooser in ours or len(good) == len(results)):
                    found[name] = good[0]
    return found


def _all_in(nexts, names):
    return all([there in names for _, there in nexts])


def _keeps_away(ours, part, names):
    """tells whether a round of a REFUSAL has nexts in it as it must"""
    kept = [any([there in names for _, there in nexts]) for _, nexts in part[3]]
    return all(kept) if part[2] in ours else any(kept)


def _leads_into(dealing, ours, is_foe, steps, won):
    """tells whether we can go on from a STANDING with these steps to one that is won"""
    tables = {}
    for (name, _), behind in steps.items():
        tables.setdefault(name, []).append(behind in won)
    ends = [any(into) if _is_ours(dealing, ours, name) else all(into) for name, into in tables.items()]
    return all(ends) if is_foe else any(ends)
