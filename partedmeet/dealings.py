"""DEALINGS looked at, and made out of parts in any order."""

from partedmeet.errors import NoDealing, NoRound, Nothing


def parties_of(dealing):
    """returns the ascending tuple of the parties"""
    return dealing[0]


def rounds_of(dealing):
    """returns the ascending tuple of the names of the ROUNDS"""
    return tuple([part[0] for part in dealing[1]])


def lot_of(dealing, name):
    """returns the lot of a round"""
    return round_of(dealing, name)[1]


def chooser_of(dealing, name):
    """returns the chooser of a round"""
    return round_of(dealing, name)[2]


def words_of(dealing, name):
    """returns the ascending tuple of the words of the RESULTS of a round"""
    return tuple([result[0] for result in round_of(dealing, name)[3]])


def nexts_of(dealing, name, word):
    """returns the dict from the parties of the lot to their nexts by the RESULT of this word"""
    nexts = [result[1] for result in round_of(dealing, name)[3] if result[0] == word]
    return dict(nexts[0])


def next_of(dealing, name, word, party):
    """returns the next of one party of the lot by the RESULT of this word"""
    return nexts_of(dealing, name, word)[party]


def wants(dealing, name, party):
    """tells whether a round WANTS a party"""
    return party in lot_of(dealing, name)


def rounds_with(dealing, party):
    """returns the ascending tuple of the rounds that want a party"""
    return tuple([part[0] for part in dealing[1] if party in part[1]])


def all_deeds(dealing):
    """returns the ascending tuple of all DEEDS for which there is a RESULT"""
    return tuple([(part[0], result[0]) for part in dealing[1] for result in part[3]])


def dealing_fault(parties, rounds):
    """returns the first fault of what shall be a DEALING, None if there is none"""
    # Each sort is only looked for behind the earlier ones: it relies on there being none of those.
    faults = (
        _party_faults(parties)
        or _twice_faults(rounds)
        or _no_faults(rounds)
        or _lot_faults(parties, rounds)
        or _chooser_faults(rounds)
        or _results_faults(rounds)
        or _word_faults(rounds)
        or _nexts_faults(rounds)
        or _next_faults(rounds)
    )
    return min(faults, default=None)


def made_dealing(parties, rounds):
    """returns the DEALING of parties and rounds in any order"""
    fault = dealing_fault(parties, rounds)
    if fault is not None:
        raise NoDealing(fault)
    return (tuple(sorted(parties)), tuple(sorted([_ordered(part) for part in rounds])))


def with_round(dealing, part):
    """returns the DEALING with this round in the place of that of its name, or beside all others"""
    return made_dealing(dealing[0], _parts_but(dealing, part[0]) + [part])


def without_round(dealing, name):
    """returns the DEALING without this round"""
    if round_of(dealing, name) is None:
        raise NoRound(name)
    return made_dealing(dealing[0], _parts_but(dealing, name))


def with_result(dealing, name, word, nexts):
    """returns the DEALING with this RESULT in the place of that of its word, or beside all others"""
    part = round_of(dealing, name)
    if part is None:
        raise NoRound(name)
    results = _results_but(part, word) + [(word, list(nexts.items()))]
    return with_round(dealing, (name, part[1], part[2], results))


def without_result(dealing, name, word):
    """returns the DEALING without this RESULT"""
    part = round_of(dealing, name)
    if part is None:
        raise NoRound(name)
    results = _results_but(part, word)
    if len(results) == len(part[3]):
        raise Nothing()
    return with_round(dealing, (name, part[1], part[2], results))


def round_of(dealing, name):
    """returns the ROUND of this name, None if there is none"""
    for part in dealing[1]:
        if part[0] == name:
            return part
    return None


def results_of(dealing, name):
    """returns the dict from the words of a round's RESULTS to their nexts, {} if there is no such round"""
    part = round_of(dealing, name)
    return {} if part is None else dict(part[3])


def with_results(dealing, name, results):
    """returns the DEALING in which a round has just these RESULTS, right ones in any order"""
    # made_dealing would look for all faults: too slow for rows of many small changes.
    parts = [part if part[0] != name else part[:3] + (tuple(sorted(results)),) for part in dealing[1]]
    return (dealing[0], tuple(parts))


def _parts_but(dealing, name):
    return [part for part in dealing[1] if part[0] != name]


def _results_but(part, word):
    return [result for result in part[3] if result[0] != word]


def _ordered(part):
    """returns the ROUND of a tuple (name, lot, chooser, results) in any order"""
    name, lot, chooser, results = part
    in_order = sorted([(word, tuple(sorted(nexts))) for word, nexts in results])
    return (name, tuple(sorted(lot)), chooser, tuple(in_order))


def _repeated(names):
    return len(set(names)) < len(names)


def _party_faults(parties):
    return [("parties",)] if len(parties) == 0 or _repeated(parties) else []


def _twice_faults(rounds):
    names = [part[0] for part in rounds]
    return [("twice", name) for name in names if names.count(name) > 1]


def _no_faults(rounds):
    names = [part[0] for part in rounds]
    return [("no", name) for name in ("first", "last") if name not in names]


def _lot_faults(parties, rounds):
    return [("lot", part[0]) for part in rounds if _is_lot_wrong(parties, part[0], part[1])]


def _is_lot_wrong(parties, name, lot):
    if len(lot) == 0 or _repeated(lot) or not all([party in parties for party in lot]):
        return True
    return name in ("first", "last") and len(lot) < len(parties)


def _chooser_faults(rounds):
    return [("chooser", part[0]) for part in rounds if part[2] not in part[1]]


def _results_faults(rounds):
    return [("results", part[0]) for part in rounds if (len(part[3]) > 0) == (part[0] == "last")]


def _word_faults(rounds):
    deeds = [(part[0], result[0]) for part in rounds for result in part[3]]
    return [("word", name, word) for name, word in deeds if deeds.count((name, word)) > 1]


def _nexts_faults(rounds):
    results = [(part, word, nexts) for part in rounds for word, nexts in part[3]]
    return [
        ("nexts", part[0], word)
        for part, word, nexts in results
        if sorted([pair[0] for pair in nexts]) != sorted(part[1])
    ]


def _next_faults(rounds):
    lots = {part[0]: part[1] for part in rounds}
    results = [(part[0], word, nexts) for part in rounds for word, nexts in part[3]]
    return [
        ("next", name, word, party)
        for name, word, nexts in results
        for party, there in nexts
        if party not in lots.get(there, ())
    ]
