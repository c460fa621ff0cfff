"""GROWTHS: the RULES backwards, by which all SOUND DEALINGS whose rounds are LED are grown."""

from partedmeet.dealings import lot_of, results_of, round_of, rounds_of, with_results
from partedmeet.errors import NoRound, NoRule, NoSound
from partedmeet.forms import are_names, is_dealing, is_name
from partedmeet.rulerows import rule_row
from partedmeet.rules import applied, fresh_couples, is_bare
from partedmeet.sound import fault
from partedmeet.ways import led


def is_growth(dealing, thing):
    """tells whether any value is a GROWTH of a DEALING"""
    if not isinstance(thing, tuple) or not thing:
        return False
    if thing[0] == "split" and len(thing) == 4:
        return _can_split(dealing, thing[1], thing[2], thing[3])
    if thing[0] == "loop" and len(thing) == 3:
        return _can_loop(dealing, thing[1], thing[2])
    if thing[0] == "fold" and len(thing) == 5:
        return _can_fold(dealing, thing[1], thing[2], thing[3], thing[4])
    return thing[0] == "add" and len(thing) == 8 and _can_add(dealing, thing)


def grown(dealing, growth):
    """returns the DEALING to which one of its GROWTHS leads"""
    name = growth[1]
    results = results_of(dealing, name)
    if growth[0] == "split":
        return _with_one_more(dealing, name, growth[3], results[growth[2]])
    if growth[0] == "loop":
        return _with_one_more(dealing, name, growth[2], tuple([(party, name) for party in lot_of(dealing, name)]))
    if growth[0] == "fold":
        _, _, words, there, word = growth
        return _with_one_for(dealing, name, words, word, _sent(results[words[0]], lot_of(dealing, there), there))
    _, _, words, there, lot, chooser, names, word = growth
    added = [(other, _part_of_nexts(results[old], lot)) for other, old in zip(names, words)]
    wider = (dealing[0], tuple(sorted([*dealing[1], (there, lot, chooser, tuple(added))])))
    return _with_one_for(wider, name, words, word, _sent(results[words[0]], lot, there))


def grown_row(dealing, row):
    """returns the DEALING to which a row of any values leads, each being a GROWTH behind those ahead"""
    here = dealing
    for index, growth in enumerate(row):
        if not is_growth(here, growth):
            raise NoRule(index)
        here = grown(here, growth)
    return here


def backwards(dealing, rule):
    """returns the GROWTH that leads back to a DEALING from where one of its RULES leads, other than a drop"""
    if rule[0] == "merge":
        return ("split", rule[1], rule[2], rule[3])
    if rule[0] == "iterate":
        return ("loop", rule[1], rule[2])
    words = tuple([fresh for fresh, _ in fresh_couples(dealing, rule)])
    return ("fold", rule[1], words, rule[3], rule[2])


def is_grown_row(dealing, thing):
    """tells whether any value is a GROWN ROW of a DEALING"""
    if not isinstance(thing, tuple) or len(thing) != 2 or not isinstance(thing[1], tuple):
        return False
    if not is_dealing(thing[0]) or not is_bare(thing[0]):
        return False
    try:
        return grown_row(thing[0], thing[1]) == dealing
    except NoRule:
        return False


def grow_row(dealing):
    """returns a GROWN ROW of a SOUND DEALING all of whose rounds are LED"""
    why = fault(dealing)
    if why is not None:
        raise NoSound(why)
    names = led(dealing)
    for name in rounds_of(dealing):
        if name not in names:
            raise NoRound(name)
    here = dealing
    growths = []
    for rule in rule_row(dealing):
        if rule[0] == "drop":
            # All rounds were LED: what is dropped is the one that the shortcut ahead has cut short for the last time.
            growths.append(_as_added(here, growths.pop()))
        else:
            growths.append(backwards(here, rule))
        here = applied(here, rule)
    return (here, tuple(growths[::-1]))


def _as_added(dealing, fold):
    """returns the GROWTH that does what a fold does, and adds the round to which it leads"""
    _, name, words, there, word = fold
    _, lot, chooser, results = round_of(dealing, there)
    return ("add", name, words, there, lot, chooser, tuple([result[0] for result in results]), word)


def _can_split(dealing, name, word, other):
    results = results_of(dealing, name)
    return is_name(word) and word in results and is_name(other) and other not in results


def _can_loop(dealing, name, word):
    results = results_of(dealing, name)
    return len(results) > 0 and is_name(word) and word not in results


def _can_fold(dealing, name, words, there, word):
    results = results_of(dealing, name)
    part = round_of(dealing, there)
    if part is None or there in (name, "last") or not _can_replace(results, words, word) or len(part[3]) != len(words):
        return False
    # A party that the round does not want would be one more here: so this tells that there is none, too.
    start = dict(results[words[0]])
    return all([dict(results[old]) == {**start, **dict(nexts)} for old, (_, nexts) in zip(words, part[3])])


def _can_add(dealing, thing):
    _, name, words, there, lot, chooser, names, word = thing
    results = results_of(dealing, name)
    if not _can_replace(results, words, word) or not is_name(there) or round_of(dealing, there) is not None:
        return False
    if not are_names(lot) or chooser not in lot or not are_names(names) or len(names) != len(words):
        return False
    if not all([party in lot_of(dealing, name) for party in lot]):
        return False
    first, *others = [[pair for pair in results[old] if pair[0] not in lot] for old in words]
    return all([other == first for other in others])


def _can_replace(results, words, word):
    """tells whether any values are a tuple of unlike words of RESULTS, not (), and a word for one in their place"""
    if not isinstance(words, tuple) or not words or not is_name(word):
        return False
    if not all([is_name(old) and old in results for old in words]) or len(set(words)) < len(words):
        return False
    return word not in results or word in words


def _with_one_more(dealing, name, word, nexts):
    return with_results(dealing, name, list(results_of(dealing, name).items()) + [(word, nexts)])


def _with_one_for(dealing, name, words, word, nexts):
    """returns the DEALING in which a RESULT of a round comes in the place of those of some words"""
    results = results_of(dealing, name)
    staying = [(old, results[old]) for old in results if old not in words]
    return with_results(dealing, name, staying + [(word, nexts)])


def _sent(nexts, lot, there):
    """returns nexts by which those of a lot go there instead"""
    return tuple([(party, there if party in lot else at) for party, at in nexts])


def _part_of_nexts(nexts, lot):
    return tuple([pair for pair in nexts if pair[0] in lot])
