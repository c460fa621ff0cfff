"""DEALINGS within DEALINGS, and parties that come and go."""

from partedmeet.dealings import made_dealing, nexts_of, results_of, round_of, rounds_of, with_results
from partedmeet.errors import NoParty, NoRound, Nothing, Used


def put_in(dealing, name, word, inner, names):
    """returns the DEALING in which a RESULT leads its parties through an inner DEALING first"""
    if round_of(dealing, name) is None:
        raise NoRound(name)
    if word not in results_of(dealing, name):
        raise Nothing()
    _check_names(dealing, names)
    ends = nexts_of(dealing, name, word)
    results = {**results_of(dealing, name), word: tuple([(party, names["first"]) for party in ends])}
    rounds = list(with_results(dealing, name, list(results.items()))[1])
    for part in inner[1]:
        if part[0] != "last":
            told = [(other, _led_out(nexts, names, ends)) for other, nexts in part[3]]
            rounds.append((names[part[0]], part[1], part[2], told))
    return made_dealing(dealing[0], rounds)


def followed(dealing, party, name):
    """returns the DEALING with one more party of this name, which goes wherever the party goes"""
    if party not in dealing[0]:
        raise NoParty(party)
    if name in dealing[0]:
        raise Used(name)
    rounds = []
    for part in dealing[1]:
        if party in part[1]:
            results = [(word, nexts + ((name, dict(nexts)[party]),)) for word, nexts in part[3]]
            rounds.append((part[0], part[1] + (name,), part[2], results))
        else:
            rounds.append(part)
    return made_dealing(dealing[0] + (name,), rounds)


def without_party(dealing, party):
    """returns the DEALING without a party, and without the rounds that want it alone"""
    if party not in dealing[0]:
        raise NoParty(party)
    if len(dealing[0]) == 1:
        raise Nothing()
    rounds = []
    for name, lot, chooser, results in dealing[1]:
        others = [other for other in lot if other != party]
        if others:
            staying = [(word, [pair for pair in nexts if pair[0] != party]) for word, nexts in results]
            rounds.append((name, others, chooser if chooser != party else others[0], staying))
    return made_dealing([other for other in dealing[0] if other != party], rounds)


def _check_names(dealing, names):
    """raises Used with the least NAME that is given twice, or is that of a round already"""
    told = list(names.values())
    used = [name for name in told if told.count(name) > 1 or name in rounds_of(dealing)]
    if used:
        raise Used(min(used))


def _led_out(nexts, names, ends):
    """returns nexts of the inner DEALING by their new names, where those that come to its `last` go on to their ends"""
    return [(party, ends[party] if there == "last" else names[there]) for party, there in nexts]
