"""What the tests share: dealings, a plain dice, variants of values, and what checks [3]."""

import copy

from partedmeet.dealings import made_dealing
from partedmeet.dealingtexts import read_dealing
from partedmeet.errors import NoText

BOTH = read_dealing(
    "parties a b c\nround first a a b c\nresult go a left b left c right\nround left a a b\n"
    "result on a last b last\nresult over a left b left\nround right c c\nresult on c last\nround last a a b c"
)
SALE = read_dealing(
    "parties bank buyer seller\nround first buyer bank buyer seller\nresult ask bank loan buyer loan seller deal\n"
    "result leave seller last buyer last bank last\nround loan bank buyer bank\nresult grant buyer deal bank last\n"
    "round deal seller seller buyer\nresult cash buyer last seller last\nresult off buyer last seller last\n"
    "round last bank bank buyer seller"
)
PLAIN = read_dealing("parties a b\nround first b a b\nresult go a last b last\nround last a a b")
# Neither is SOUND: in CROSS a and b wait for each other at unlike rounds; in STUCK a never comes to `last`.
CROSS = read_dealing(
    "parties a b\nround first a a b\nresult go a x b y\nround last a a b\nround x a a b\nresult ok a last b last\n"
    "round y b a b\nresult ok a last b last"
)
STUCK = read_dealing(
    "parties a b\nround first a a b\nresult go a x b last\nround x a a\nresult on a x\nround last a a b\n"
    "round far b b\nresult on b last"
)
# From `lone` a WAY leads to `last`, but no WAY leads to it; from `pit` none leads to `last`.
LOST = read_dealing(
    "parties a b\nround first a a b\nresult fall a pit b pit\nresult go a last b last\nround pit a a b\n"
    "result on a pit b pit\nround lone b a b\nresult go a last b last\nround last b a b"
)
# Each DATE is SINGLE, but x, y and z are a KNOT without a HEAD: behind `go` nothing is OPEN.
THREE = read_dealing(
    "parties a b c\nround first a a b c\nresult go a x b y c z\nround last a a b c\nround x a a b\nresult on a z b last\n"
    "round y b b c\nresult on b x c last\nround z a a c\nresult on a last c y"
)
ALONE = read_dealing("parties p\nround first p p\nresult go p last\nround last p p")
FIXED = (BOTH, SALE, PLAIN, CROSS, STUCK, LOST, THREE, ALONE)

OTHER_KINDS = (None, True, False, 0, 1, -7, 10 ** 39, "", "a", "zz", "A", "\n", (), [], {}, ("a",), [("a", "b")])
OTHER_KINDS = OTHER_KINDS + ({"a": ["a"]}, NoText(1, 2))


class Dice:
    """a row of numbers that is the same each time"""

    def __init__(self, seed):
        self.state = seed

    def below(self, many):
        self.state = (self.state * 6364136223846793005 + 1442695040888963407) % 2 ** 64
        return (self.state >> 33) % many

    def pick(self, things):
        return things[self.below(len(things))]

    def some(self, things):
        """at least one of the things, in order"""
        found = [thing for thing in things if self.below(2)]
        return found or [self.pick(things)]

    def shuffled(self, things):
        left = list(things)
        return [left.pop(self.below(len(left))) for _ in range(len(left))]


def some_dealing(seed):
    """a small DEALING; about half of the RESULTS keep together those who can be kept together"""
    dice = Dice(seed)
    parties = ["a", "b", "c"][: 1 + dice.below(3)]
    names = ["r", "s", "t", "u"][: dice.below(5)]
    lots = {"first": parties, "last": parties}
    for name in names:
        lots[name] = dice.some(parties)
    rounds = [("last", parties, dice.pick(parties), [])]
    for name in ["first"] + names:
        results = []
        for word in ["k", "l", "m"][: 1 + dice.below(3)]:
            target = dice.pick(list(lots))
            together = dice.below(2)
            nexts = []
            for party in lots[name]:
                places = [there for there in lots if party in lots[there]]
                nexts.append((party, target if together and target in places else dice.pick(places)))
            results.append((word, nexts))
        rounds.append((name, lots[name], dice.pick(lots[name]), results))
    return made_dealing(parties, rounds)


def grown_dealing(seed, is_bent):
    """a SOUND DEALING: each step gives a round one more RESULT, or puts a round on a RESULT; bent, one next is another"""
    dice = Dice(seed)
    parties = ["a", "b", "c"][: 2 + dice.below(2)]
    return grown_from(dice, parties, ["r", "s", "t", "u"][: 1 + dice.below(4)], is_bent)


def grown_from(dice, parties, names, is_bent):
    lots = {"first": parties, "last": parties}
    results = {"first": {"k": {party: "last" for party in parties}}, "last": {}}
    for name in names:
        told_in = dice.pick([at for at in lots if at != "last"])
        words = results[told_in]
        nexts = words[dice.pick(sorted(words))]
        lots[name] = dice.some(lots[told_in])
        results[name] = {"k": {party: nexts[party] for party in lots[name]}}
        nexts.update({party: name for party in lots[name]})
        if dice.below(2):
            results[name]["l"] = {party: name for party in lots[name]}
        if dice.below(3) == 0:
            results[name]["m"] = dict(results[name]["k"])
    if is_bent:
        nexts = dice.pick([nexts for words in results.values() for nexts in words.values()])
        party = dice.pick(sorted(nexts))
        nexts[party] = dice.pick([name for name in lots if party in lots[name]])
    rounds = []
    for name, lot in lots.items():
        rounds.append((name, lot, dice.pick(lot), [(word, list(results[name][word].items())) for word in results[name]]))
    return made_dealing(parties, rounds)


def many_dealings(many):
    """fixed DEALINGS and small ones, SOUND and not"""
    found = list(FIXED)
    for seed in range(many):
        found.append(some_dealing(seed) if seed % 3 == 0 else grown_dealing(seed, seed % 3 == 1))
    return found


def variants(value):
    """values like this one, at any depth: with parts exchanged, left out and added, and lists for tuples"""
    found = [other for other in OTHER_KINDS]
    if isinstance(value, str):
        found += [value + "x", value[:-1], value.upper(), [value], (value,), value + "\n", "x" * 13]
    if isinstance(value, (tuple, list)):
        found.append(list(value) if isinstance(value, tuple) else tuple(value))
        found.append(value[::-1])
        for at in range(len(value)):
            found.append(value[:at] + value[at + 1:])
            found.append(value[:at] + value[at:at + 1] + value[at:])
            for part in variants(value[at]):
                found.append(value[:at] + type(value)([part]) + value[at + 1:])
        for other in OTHER_KINDS:
            found.append(value + type(value)([other]))
    return found


def kinds_of(value):
    """the value with its kinds at any depth, so that True is not 1 here, and dicts tell their order"""
    if isinstance(value, (tuple, list)):
        return (type(value).__name__, [kinds_of(part) for part in value])
    if isinstance(value, dict):
        return ("dict", [(kinds_of(key), kinds_of(value[key])) for key in value])
    if isinstance(value, ValueError):
        return (type(value).__name__, kinds_of(value.args), kinds_of(vars(value)))
    return (type(value).__name__, value)


def spoil(value):
    """changes each list and dict in a value"""
    if isinstance(value, (tuple, list)):
        for part in value:
            spoil(part)
    if isinstance(value, dict):
        for key in list(value):
            spoil(value[key])
        value["spoilt"] = "spoilt"
    if isinstance(value, list):
        value.append("spoilt")


def outcome(function, arguments):
    """what a call returns or raises, with the fields of an error"""
    try:
        return ("returns", function(*arguments))
    except ValueError as error:
        return ("raises", type(error), dict(vars(error)))


def told(case, function, *arguments):
    """calls, checks what [3] says of each call, and returns what is returned or raises what is raised"""
    kept = copy.deepcopy(arguments)
    once = outcome(function, arguments)
    case.assertEqual(kinds_of(arguments), kinds_of(kept), function.__name__)
    if once[0] == "returns":
        before = kinds_of(once[1])
        spoilt = outcome(function, arguments)[1]
        spoil(spoilt)
        case.assertEqual(kinds_of(arguments), kinds_of(kept), function.__name__)
        case.assertEqual(kinds_of(once[1]), before, function.__name__)
        case.assertEqual(kinds_of(function(*arguments)), before, function.__name__)
    else:
        case.assertEqual(kinds_of(outcome(function, kept)), kinds_of(once))
    return function(*arguments)


def raised(case, error_class, function, *arguments):
    """checks that the call raises just this class and leaves its arguments, and returns the fields of the error"""
    kept = copy.deepcopy(arguments)
    with case.assertRaises(error_class) as caught:
        function(*arguments)
    case.assertEqual(type(caught.exception), error_class)
    case.assertEqual(kinds_of(arguments), kinds_of(kept))
    return dict(vars(caught.exception))


# Plain searches: they go through everything, by the words of [2], and use nothing of the package.


def plain_lots(dealing):
    return {name: lot for name, lot, _, _ in dealing[1]}


def plain_nexts(dealing):
    """the dict from (round, word) to the dict of the nexts"""
    return {(name, word): dict(nexts) for name, _, _, results in dealing[1] for word, nexts in results}


def plain_steps(dealing, party=None):
    """the dict from rounds to the sets of their nexts, of one party's, if one is told"""
    found = {name: set() for name, lot in plain_lots(dealing).items() if party is None or party in lot}
    for (name, _), nexts in plain_nexts(dealing).items():
        for one, there in nexts.items():
            if party in (None, one):
                found[name].add(there)
    return found


def plain_ways(steps, start):
    """all rows of rounds from a start along steps that come to no round twice"""
    rows = [(start,)]
    for row in rows:
        rows += [row + (there,) for there in sorted(steps[row[-1]]) if there not in row]
    return rows


def plain_length(steps, start, end):
    """the least LENGTH from start to end, None if there is none: a shortest one comes to no round twice"""
    return min([len(row) - 1 for row in plain_ways(steps, start) if row[-1] == end], default=None)


def plain_led(dealing):
    return sorted({row[-1] for row in plain_ways(plain_steps(dealing), "first")})


def plain_meetings(dealing, start, one, other):
    """(ahead, meetings) of one with other from a start on"""
    lots = plain_lots(dealing)
    rows = [row for row in plain_ways(plain_steps(dealing, one), start) if not any(other in lots[at] for at in row[:-1])]
    ends = sorted({row[-1] for row in rows})
    return tuple(at for at in ends if other not in lots[at]), tuple(at for at in ends if other in lots[at])


def plain_deeds(dealing, standing):
    """the list of the DEEDS that can be done, with the STANDINGS to which they lead"""
    lots, places, found = plain_lots(dealing), dict(standing), []
    for (name, word), nexts in sorted(plain_nexts(dealing).items()):
        if all(places[party] == name for party in lots[name]):
            found.append(((name, word), tuple(sorted({**places, **nexts}.items()))))
    return found


def plain_met(dealing, start=None):
    """the list of all STANDINGS to which RUNS lead from a start, the FIRST STANDING if none is told"""
    found = [start or tuple((party, "first") for party in dealing[0])]
    for standing in found:
        for _, behind in plain_deeds(dealing, standing):
            if behind not in found:
                found.append(behind)
    return found


def plain_is_sound(dealing):
    end = tuple((party, "last") for party in dealing[0])
    return all(end in plain_met(dealing, standing) for standing in plain_met(dealing))
