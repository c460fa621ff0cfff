"""What the tests of the later modules share: plain searches by RUNS, and values with dicts in them."""

import itertools

from partedmeet.dealings import made_dealing, with_result
from partedmeet.dealingtexts import read_dealing
from tests.helper import OTHER_KINDS, Dice, kinds_of, plain_deeds, plain_is_sound, plain_led, plain_lots, plain_nexts
from tests.helper import variants

# Three parties; a is led back again and again, and so are a and b together: a loop within a loop.
LOOPS = read_dealing(
    "parties a b c\nround first a a b c\nresult go a out b out c side\nround out b a b\nresult back a out b out\n"
    "result in a think b wait\nround think a a\nresult more a think\nresult on a wait\nround wait b a b\n"
    "result again a out b out\nresult done a last b last\nround side c c\nresult loop c side\nresult on c last\n"
    "round last c a b c"
)
# As it is here, c never comes to `side`, nor does anyone to `lone`.
IDLE = read_dealing(
    "parties a b c\nround first a a b c\nresult go a left b left c last\nround left a a b\nresult on a last b last\n"
    "round lone b b\nresult on b last\nround side c c\nresult on c side\nround last a a b c"
)


def plain_start(dealing):
    return tuple((party, "first") for party in dealing[0])


def plain_end(dealing):
    return tuple((party, "last") for party in dealing[0])


def plain_runs(dealing):
    """the dict from all MET STANDINGS to the least of the shortest RUNS that lead there"""
    found = {plain_start(dealing): ()}
    rows = [((), plain_start(dealing))]
    while rows:
        longer = []
        for deeds, standing in sorted(rows):
            for deed, behind in plain_deeds(dealing, standing):
                if behind not in found:
                    found[behind] = deeds + (deed,)
                    longer.append((deeds + (deed,), behind))
        rows = longer
    return found


def plain_open(dealing, standing):
    """the list of the rounds that are OPEN"""
    return sorted({deed[0] for deed, _ in plain_deeds(dealing, standing)})


def plain_run(dealing, deeds):
    """the STANDING to which DEEDS lead from the first one, None if they are no RUN"""
    here = plain_start(dealing)
    for deed in deeds:
        steps = dict(plain_deeds(dealing, here))
        if deed not in steps:
            return None
        here = steps[deed]
    return here


def some_run(dealing, dice, most):
    """a RUN of so many DEEDS at most"""
    deeds, here = (), plain_start(dealing)
    while len(deeds) < most and plain_deeds(dealing, here):
        deed, here = dice.pick(plain_deeds(dealing, here))
        deeds += (deed,)
    return deeds


def plain_table(dealing):
    """the TABLE, by the words of [34]: made greater as long as some couple must be in it"""
    names, lots, nexts = plain_led(dealing), plain_lots(dealing), plain_nexts(dealing)
    results = [(name, places) for (name, _), places in nexts.items() if name in names]
    found = set()
    for _, places in results:
        found |= {tuple(sorted(couple)) for couple in itertools.combinations(places.items(), 2)}
    seats = [(party, name) for name in names for party in lots[name]]
    while True:
        more = set()
        for seat in seats:
            for name, places in results:
                others = [tuple(sorted((seat, (party, name)))) for party in lots[name]]
                if seat[0] not in lots[name] and set(others) <= found:
                    more |= {tuple(sorted((seat, pair))) for pair in places.items()}
        if more <= found:
            return tuple(sorted(found))
        found |= more


def dict_variants(table):
    """values like a dict: with keys and worths exchanged, left out and added"""
    found = list(OTHER_KINDS) + [list(table.items()), tuple(table.items())]
    for key in table:
        left = {other: table[other] for other in table if other != key}
        found.append(left)
        found += [{**left, key: worth} for worth in variants(table[key])]
        found += [{**left, other: table[key]} for other in variants(key) if is_key(other)]
    for other in OTHER_KINDS:
        if is_key(other):
            found.append({**table, other: other})
    return found


def is_key(thing):
    try:
        return len({thing: True}) == 1
    except TypeError:
        return False


def are_same(one, other):
    """whether two values are equal and of the same kinds at any depth, dicts in any order"""
    if isinstance(one, dict) and isinstance(other, dict):
        return len(one) == len(other) and all(key in other and are_same(one[key], other[key]) for key in one)
    return kinds_of(one) == kinds_of(other)


def row_of(names):
    """a DEALING of one party p, which goes from `first` along rounds of these names"""
    names = ["first"] + list(names) + ["last"]
    rounds = [("last", ["p"], "p", [])]
    for name, there in zip(names, names[1:]):
        rounds.append((name, ["p"], "p", [("on", [("p", there)])]))
    return made_dealing(["p"], rounds)


def fan(many):
    """a SOUND DEALING: from `many` so many unlike STANDINGS are come to, by words in order; from `nil` the END

    Of the parties p, q and r each goes to rounds of its own, xa .., ya .., za .., at most 13; from there to `last`.
    """
    letters, lot = "abcdefghijklm", ["p", "q", "r"]
    rounds = [("last", lot, "p", []), ("nil", lot, "p", [("read", [(party, "last") for party in lot])])]
    for party, head in zip(lot, "xyz"):
        rounds += [(head + letter, [party], party, [("on", [(party, "last")])]) for letter in letters]
    results = []
    for row in list(itertools.product(letters, repeat=3))[:many]:
        results.append(("".join(row), [(party, head + at) for party, head, at in zip(lot, "xyz", row)]))
    rounds.append(("many", lot, "p", results))
    first = [("a", [(party, "many") for party in lot]), ("z", [(party, "nil") for party in lot])]
    return made_dealing(lot, rounds + [("first", lot, "p", first)])


def swapped(dealing, dice):
    """the same DEALING with all rounds but `first` and `last` under other names"""
    inner = [part[0] for part in dealing[1] if part[0] not in ("first", "last")]
    names = {"first": "first", "last": "last"}
    for name, other in zip(inner, dice.shuffled(inner)):
        names[name] = other + "n"
    rounds = []
    for name, lot, chooser, results in dealing[1]:
        told = [(word, [(party, names[there]) for party, there in nexts]) for word, nexts in results]
        rounds.append((names[name], lot, chooser, told))
    return made_dealing(dealing[0], rounds)


def doubled(dealing, dice):
    """a DEALING with the same TRACES: a round other than `last` is there once more, and by some RESULTS all go there"""
    lots = plain_lots(dealing)
    whole = []
    for deed, nexts in plain_nexts(dealing).items():
        for name in sorted(set(nexts.values()) - {"last"}):
            if all(nexts.get(party) == name for party in lots[name]):
                whole.append((deed, name))
    if not whole:
        return None
    chosen, name = dice.pick(whole)
    rounds = []
    for at, lot, chooser, results in dealing[1] + tuple((name + "o",) + part[1:] for part in dealing[1] if part[0] == name):
        told = []
        for word, nexts in results:
            is_other = (at, word) == chosen or ((at, word), name) in whole and dice.below(2)
            told.append((word, [(party, name + "o" if there == name and is_other else there) for party, there in nexts]))
        rounds.append((at, lot, chooser, told))
    return made_dealing(dealing[0], rounds)


def with_choosers(dealing, dice):
    """the same DEALING with other choosers, but of `last`"""
    rounds = [(name, lot, chooser if name == "last" else dice.pick(lot), results) for name, lot, chooser, results in dealing[1]]
    return made_dealing(dealing[0], rounds)


def plain_marks(dealing, standing):
    """the dict from (lot, chooser, word) of all that can be done to the list of (deed, standing behind it)"""
    told_of, found = {part[0]: part[1:3] for part in dealing[1]}, {}
    for deed, behind in plain_deeds(dealing, standing):
        found.setdefault(told_of[deed[0]] + (deed[1],), []).append((deed, behind))
    return found


def plain_parting(one, other):
    """(many, come): the least number of DEEDS of a PARTING, None if there is none; and how many couples are come to"""
    known, rows, many = {(plain_start(one), plain_start(other))}, [(plain_start(one), plain_start(other))], 0
    while rows:
        many += 1
        longer = []
        for here, there in rows:
            some, others = plain_marks(one, here), plain_marks(other, there)
            if set(some) != set(others):
                return many, len(known)
            longer += [(behind, place) for mark in some for _, behind in some[mark] for _, place in others[mark]]
        rows = sorted(set(longer) - known)
        known |= set(rows)
    return None, len(known)


def plain_are_traced(dealing, trace):
    """whether some RUN has this TRACE"""
    standings = [plain_start(dealing)]
    for mark in trace:
        standings = [behind for at in standings for _, behind in plain_marks(dealing, at).get(mark, [])]
    return standings != []


def faced(dealing, dice, seed):
    """a SOUND DEALING with the same parties and chooser of `last`: with the same TRACES, perhaps, or others; or None"""
    if seed % 3 == 0:
        return doubled(dealing, dice)
    if seed % 3 == 1:
        return swapped(dealing, dice)
    part = dice.pick([part for part in dealing[1] if part[0] != "last"])
    word, nexts = dice.pick(part[3])
    party = dice.pick(part[1])
    changed = {**dict(nexts), party: dice.pick([name for name, lot in plain_lots(dealing).items() if party in lot])}
    found = with_result(dealing, part[0], dice.pick([word, "zz"]), changed)
    return found if plain_is_sound(found) else with_choosers(dealing, dice)


def as_dice(seed):
    return Dice(seed * 77 + 5)
