"""What more tests share: plain searches that go through everything, and greater DEALINGS."""

import itertools

from partedmeet.dealings import made_dealing
from tests.helper import Dice, grown_from, plain_led, plain_length, plain_lots, plain_meetings, plain_nexts, plain_steps


def all_standings(dealing):
    lots = plain_lots(dealing)
    return itertools.product(*[[(party, name) for name in lots if party in lots[name]] for party in dealing[0]])


def all_lots(dealing):
    names = sorted(plain_lots(dealing))
    return [lot for many in range(len(names) + 1) for lot in itertools.combinations(names, many)]


def chains(lengths, starts):
    """each party has a chain of rounds of its own; starts tells how far each of them is led by each RESULT of `first`"""
    parties = ["abcdefgh"[at] for at in range(len(lengths))]
    names = [[party + "xyzuvw"[at] for at in range(length)] + ["last"] for party, length in zip(parties, lengths)]
    rounds = [("last", parties, "a", [])]
    for party, row in zip(parties, names):
        for name, there in zip(row, row[1:]):
            rounds.append((name, [party], party, [("on", [(party, there)])]))
    results = []
    for word, start in zip(["k", "l", "m", "n", "o", "p"], starts):
        results.append((word, [(party, row[at]) for party, row, at in zip(parties, names, start)]))
    return made_dealing(parties, rounds + [("first", parties, "a", results)])


# By the five RESULTS each party in its turn is led one step: so all but the one STANDING of no step is met.
ONE_STEP = [tuple(int(at == other) for at in range(5)) for other in range(5)]
JUST_2000 = chains([4, 4, 4, 3, 3], ONE_STEP)
OVER_2000 = chains([4, 4, 4, 3, 3], ONE_STEP + [(0, 0, 0, 0, 0)])


def great_dealing(seed):
    """a SOUND DEALING of 1 to 8 parties and 24 rounds"""
    parties = list("abcdefgh")[: 1 + seed % 8]
    return grown_from(Dice(seed), parties, ["r" + letter for letter in "abcdefghijklmnopqrstuv"], False)


def nested_loops(many):
    """a dealing of one party, and so many rounds in a row, from each of which it can go back by one, or on"""
    names = ["first"] + ["r" + "abcdefghijklmnopqrstuvwxyz"[at] for at in range(many)] + ["last"]
    rounds = [("last", ["p"], "p", []), ("first", ["p"], "p", [("on", [("p", names[1])])])]
    for back, name, there in zip(names, names[1:], names[2:]):
        results = [("on", [("p", there)])]
        if back != "first":
            results.append(("back", [("p", back)]))
        rounds.append((name, ["p"], "p", results))
    return made_dealing(["p"], rounds)


def plain_are_tied(table, names):
    """whether WAYS of a LENGTH from 1 on within names lead from each to each, itself too"""
    for start in names:
        ends = [there for there in table[start] if there in names]
        for end in ends:
            ends += [there for there in table[end] if there in names and there not in ends]
        if not set(names) <= set(ends):
            return False
    return True


def plain_tied(table, lot):
    """all sets of rounds of a lot, as ascending tuples, in which WAYS lead from each to each, itself too"""
    sets = [names for many in range(1, len(lot) + 1) for names in itertools.combinations(lot, many)]
    return [names for names in sets if plain_are_tied(table, names)]


def plain_knots(table, lot):
    tied = plain_tied(table, lot)
    return tuple(sorted(names for names in tied if not any(set(names) < set(other) for other in tied)))


def plain_heads(dealing, names):
    lots = plain_lots(dealing)
    wanted = {party for name in names for party in lots[name]}
    return tuple(sorted({name for name in names if set(lots[name]) == wanted}))


def plain_tree(dealing, lot):
    """(tree, headless): the TREE, None if there is none; and the first KNOT without a HEAD, None if there is none"""
    found = []
    for knot in plain_knots(plain_steps(dealing), lot):
        heads = plain_heads(dealing, knot)
        if not heads:
            return None, knot
        inner, headless = plain_tree(dealing, tuple(name for name in knot if name != heads[0]))
        if headless:
            return None, headless
        found.append((knot, heads[0], inner))
    return tuple(found), None


def plain_date(dealing, name, word, one, other):
    nexts = plain_nexts(dealing)[(name, word)]
    some = plain_meetings(dealing, nexts[one], one, other)[1]
    others = plain_meetings(dealing, nexts[other], other, one)[1]
    return some[0] if len(some) == 1 and some == others else None


def plain_fault(dealing):
    names = plain_led(dealing)
    for name in names:
        if plain_length(plain_steps(dealing), name, "last") is None:
            return ("lost", name)
    for (name, word), nexts in sorted(plain_nexts(dealing).items()):
        for one, other in itertools.combinations(sorted(nexts), 2):
            if name in names and plain_date(dealing, name, word, one, other) is None:
                return ("date", name, word, one, other)
    headless = plain_tree(dealing, tuple(names))[1]
    return headless and ("circle", headless)
