"""RULES: they lead from SOUND DEALINGS to SOUND ones, and bring just these to a BARE one."""

from partedmeet.dealings import lot_of, results_of, round_of, rounds_of, with_results
from partedmeet.forms import is_name
from partedmeet.ways import led

LETTERS = "abcdefghijklmnopqrstuvwxyz"


def is_rule(dealing, thing):
    """tells whether any value is a RULE of a DEALING"""
    if not isinstance(thing, tuple) or len(thing) < 2:
        return False
    if thing[0] == "drop":
        return thing in drops(dealing)
    if not all([is_name(part) for part in thing]):
        return False
    results = results_of(dealing, thing[1])
    if thing[0] == "merge" and len(thing) == 4:
        return _can_merge(results, thing[2], thing[3])
    if thing[0] == "iterate" and len(thing) == 3:
        return _can_iterate(results, thing[1], thing[2])
    return thing[0] == "shortcut" and len(thing) == 4 and _can_cut(dealing, thing[1], thing[2], thing[3])


def rules_of(dealing):
    """returns the ascending list of all RULES of a DEALING"""
    found = drops(dealing)
    for name, _, _, results in dealing[1]:
        for word, nexts in results:
            found = found + [("iterate", name, word)] + [("merge", name, word, other) for other, _ in results]
            found = found + _cuts_by(name, word, nexts)
    return sorted([rule for rule in found if is_rule(dealing, rule)])


def applied(dealing, rule):
    """returns the DEALING to which one of its RULES leads"""
    if rule[0] == "drop":
        return (dealing[0], tuple([part for part in dealing[1] if part[0] not in rule[1]]))
    gone = rule[3] if rule[0] == "merge" else rule[2]
    results = results_of(dealing, rule[1])
    staying = [(word, results[word]) for word in results if word != gone]
    if rule[0] == "shortcut":
        staying = staying + _fresh_results(dealing, rule, results[gone])
    return with_results(dealing, rule[1], staying)


def is_bare(dealing):
    """tells whether a DEALING has just `first`, one RESULT of it, and `last`"""
    if rounds_of(dealing) != ("first", "last"):
        return False
    results = results_of(dealing, "first")
    return len(results) == 1 and all([there == "last" for nexts in results.values() for _, there in nexts])


def drops(dealing):
    """returns the list of the one RULE that drops what is not LED, [] if there is nothing to drop"""
    names = led(dealing)
    idle = tuple([name for name in rounds_of(dealing) if name != "last" and name not in names])
    return [("drop", idle)] if idle else []


def cuts(dealing):
    """returns the ascending list of all RULES that cut a round short"""
    tries = [_cuts_by(part[0], word, nexts) for part in dealing[1] for word, nexts in part[3]]
    return [rule for rules in tries for rule in rules if is_rule(dealing, rule)]


def fresh_couples(dealing, rule):
    """returns the list of tuples (fresh word, word of the round cut short) of a shortcut"""
    words = list(results_of(dealing, rule[3]))
    staying = [word for word in results_of(dealing, rule[1]) if word != rule[2]]
    return list(zip(fresh_words(staying, len(words)), words))


def fresh_words(staying, many):
    """returns the list of so many FRESH WORDS beside the words that stay"""
    found = []
    index = 0
    while len(found) < many:
        word = _numbered_word(index)
        if word not in staying:
            found.append(word)
        index = index + 1
    return found


def _numbered_word(index):
    """returns the word of this index in the row `a`, `b`, .., `z`, `aa`, `ab`, .."""
    word = ""
    left = index + 1
    while left > 0:
        left, at = divmod(left - 1, len(LETTERS))
        word = LETTERS[at] + word
    return word


def _can_merge(results, word, other):
    return word < other and word in results and results.get(other) == results[word]


def _can_iterate(results, name, word):
    return word in results and len(results) > 1 and all([there == name for _, there in results[word]])


def _can_cut(dealing, name, word, there):
    results = results_of(dealing, name)
    if word not in results or round_of(dealing, there) is None or there in (name, "last"):
        return False
    nexts = dict(results[word])
    return all([nexts.get(party) == there for party in lot_of(dealing, there)])


def _cuts_by(name, word, nexts):
    """returns the ascending list of what may be shortcuts of a RESULT"""
    return [("shortcut", name, word, there) for there in sorted({there for _, there in nexts})]


def _fresh_results(dealing, rule, nexts):
    """returns the list of the RESULTS that come by a shortcut of one with these nexts"""
    results = results_of(dealing, rule[3])
    found = []
    for fresh, word in fresh_couples(dealing, rule):
        found.append((fresh, tuple({**dict(nexts), **dict(results[word])}.items())))
    return found
