"""[29], and what [7] says of it: GROWTHS, the RULES backwards, and GROWN ROWS."""

import itertools
import unittest

from partedmeet.dealings import made_dealing, with_result, with_round
from partedmeet.dealingtexts import read_dealing
from partedmeet.errors import NoRound, NoRule, NoSound, TooMany
from partedmeet.forms import is_dealing
from partedmeet.grown import backwards, grow_row, grown, grown_row, is_grown_row, is_growth
from partedmeet.rules import applied, is_bare, rules_of
from partedmeet.sound import fault
from tests.helper import ALONE, BOTH, CROSS, FIXED, LOST, OTHER_KINDS, PLAIN, SALE, STUCK, THREE, Dice, kinds_of
from tests.helper import many_dealings, plain_is_sound, plain_led, plain_lots, raised, told, variants
from tests.plain import great_dealing, nested_loops
from tests.test_rules import RICH

BARE = made_dealing(
    ["b", "s"],
    [
        ("first", ["b", "s"], "b", [("a", [("b", "last"), ("s", "last")])]),
        ("last", ["b", "s"], "b", []),
    ],
)
UP = (
    ("split", "first", "a", "go"),
    ("add", "first", ("a",), "talk", ("b", "s"), "s", ("yes",), "ask"),
    ("loop", "talk", "again"),
)
TALK = read_dealing(
    "parties b s\nround first b b s\nresult ask b talk s talk\nresult go b last s last\n"
    "round talk s b s\nresult again b talk s talk\nresult yes b last s last\nround last b b s"
)
# Folds: k and m of `first` go where y's k and l go, and c where it goes by k.
FOLDS = read_dealing(
    "parties a b c\nround first a a b c\nresult k a last b x c x\nresult l a y b y c x\nresult m a y b last c x\n"
    "result n a last b x c last\nround x b b c\nresult on b last c last\nround y a a b\nresult k a last b x\n"
    "result l a y b last\nround last a a b c"
)


def plain_results(dealing):
    return {part[0]: {word: dict(nexts) for word, nexts in part[3]} for part in dealing[1]}


def is_plain_name(thing):
    return isinstance(thing, str) and 1 <= len(thing) <= 12 and set(thing) <= set("abcdefghijklmnopqrstuvwxyz")


def plain_fits(results, words, word):
    return len(words) > 0 and set(words) <= set(results) and len(set(words)) == len(words) and (
        is_plain_name(word) and (word not in results or word in words)
    )


def plain_is_growth(dealing, thing):
    """of a tuple of the right kinds: whether it is a GROWTH, by the words of [29]"""
    lots, all_results = plain_lots(dealing), plain_results(dealing)
    name, results = thing[1], all_results.get(thing[1], {})
    if name not in lots or name == "last":
        return False
    if thing[0] == "split":
        return thing[2] in results and thing[3] not in results
    if thing[0] == "loop":
        return thing[2] not in results
    if thing[0] == "fold":
        _, _, words, there, word = thing
        if there not in lots or there in (name, "last") or not set(lots[there]) <= set(lots[name]):
            return False
        if not plain_fits(results, words, word) or len(words) != len(all_results[there]):
            return False
        for old, inner in zip(words, sorted(all_results[there])):
            for party in lots[name]:
                where = all_results[there][inner] if party in lots[there] else results[words[0]]
                if results[old][party] != where[party]:
                    return False
        return True
    _, _, words, there, lot, chooser, names, word = thing
    if there in lots or not lot or list(lot) != sorted(set(lot)) or not set(lot) <= set(lots[name]) or chooser not in lot:
        return False
    if not plain_fits(results, words, word) or list(names) != sorted(set(names)) or len(names) != len(words):
        return False
    return all(results[old][party] == results[words[0]][party] for old in words for party in set(lots[name]) - set(lot))


def plain_grown(dealing, growth):
    """the DEALING to which a GROWTH leads, by the words of [29]"""
    rounds = {part[0]: [part[1], part[2], {word: dict(nexts) for word, nexts in part[3]}] for part in dealing[1]}
    lot, _, results = rounds[growth[1]]
    if growth[0] == "split":
        results[growth[3]] = dict(results[growth[2]])
    elif growth[0] == "loop":
        results[growth[2]] = {party: growth[1] for party in lot}
    else:
        words, there = growth[2:4]
        old = [results.pop(word) for word in words]
        if growth[0] == "add":
            small = growth[4]
            inner = {word: {party: nexts[party] for party in small} for word, nexts in zip(growth[6], old)}
            rounds[there] = [small, growth[5], inner]
        results[growth[-1]] = {**old[0], **{party: there for party in rounds[there][0]}}
    parts = []
    for name, (lot, chooser, results) in rounds.items():
        parts.append((name, lot, chooser, [(word, list(results[word].items())) for word in results]))
    return made_dealing(dealing[0], parts)


def some_adds(dice, dealing, name, many):
    """tuples that may be GROWTHS that add a round to a round, and some that are none"""
    lot, results = plain_lots(dealing)[name], sorted(plain_results(dealing)[name])
    found = []
    for _ in range(many):
        words = tuple(dice.shuffled(dice.some(results or ["k"])))
        small = tuple(dice.some(list(lot)))
        names = tuple("pqrstuvwxyz"[: len(words) + dice.below(9) // 8])
        new, chooser = dice.pick(["new", "new", "new", name]), dice.pick([dice.pick(small), dice.pick(lot)])
        found.append(("add", name, words, new, small, chooser, names, dice.pick([words[0], "new", dice.pick(results or ["k"])])))
    return found


def some_growths(dice, dealing):
    """all splits, loops and folds with words that are there or `new`, and some adds: GROWTHS and others"""
    found = []
    for name in sorted(plain_lots(dealing)) + ["none"]:
        results = sorted(plain_results(dealing).get(name, {}))
        words = results + ["new"]
        found += [("loop", name, word) for word in words]
        found += [("split", name, word, other) for word in words for other in words]
        for many in (1, 2, 3):
            for row in itertools.islice(itertools.permutations(results, many), 24):
                for there in sorted(plain_lots(dealing)) + ["none"]:
                    found += [("fold", name, row, there, word) for word in words]
        if name in plain_lots(dealing):
            found += some_adds(dice, dealing, name, 12)
    return found


class Growths(unittest.TestCase):
    def test_the_folds(self):
        right = (
            ("fold", "first", ("k", "m"), "y", "k"),
            ("fold", "first", ("k", "m"), "y", "m"),
            ("fold", "first", ("k", "m"), "y", "new"),
        )
        for growth in right:
            self.assertIs(told(self, is_growth, FOLDS, growth), True)
            behind = told(self, grown, FOLDS, growth)
            self.assertEqual(plain_results(behind)["first"][growth[4]], {"a": "y", "b": "y", "c": "x"})
            self.assertEqual(sorted(plain_results(behind)["first"]), sorted(["l", "n", growth[4]]))
            self.assertEqual(behind, plain_grown(FOLDS, growth))
        wrong = (
            ("fold", "first", ("m", "k"), "y", "k"), ("fold", "first", ("k", "m"), "y", "l"), ("fold", "first", ("k",), "y", "k"),
            ("fold", "first", ("k", "m", "l"), "y", "k"), ("fold", "first", ("n", "m"), "y", "n"),
            ("fold", "first", ("k", "k"), "y", "k"), ("fold", "first", ("k", "m"), "x", "k"), ("fold", "first", (), "last", "k"),
            ("fold", "first", ["k", "m"], "y", "k"), ("fold", "first", ("k", "m"), "none", "k"),
            ("fold", "first", ("k", "m"), "first", "k"), ("fold", "none", ("k", "m"), "y", "k"), ("fold", "x", ("on",), "y", "on"),
        )
        for growth in wrong:
            self.assertIs(told(self, is_growth, FOLDS, growth), False, growth)

    def test_a_fold_may_be_of_a_round_that_wants_the_same(self):
        growth = ("fold", "talk", ("yes",), "first", "yes")
        dealing = read_dealing(
            "parties b s\nround first b b s\nresult go b last s last\nround last b b s\n"
            "round talk s b s\nresult again b talk s talk\nresult yes b last s last"
        )
        self.assertIs(told(self, is_growth, dealing, growth), True)
        self.assertEqual(plain_results(told(self, grown, dealing, growth))["talk"]["yes"], {"b": "first", "s": "first"})

    def test_splits_and_loops(self):
        for growth in (("split", "first", "k", "a"), ("loop", "y", "on"), ("loop", "first", "zzzzzzzzzzzz")):
            self.assertIs(told(self, is_growth, FOLDS, growth), True)
            self.assertEqual(told(self, grown, FOLDS, growth), plain_grown(FOLDS, growth))
        wrong = (
            ("split", "first", "k", "l"), ("split", "first", "k", "k"), ("split", "first", "a", "b"), ("split", "none", "k", "a"),
            ("split", "last", "k", "a"), ("split", "first", "k", "A"), ("split", "first", "k", "z" * 13), ("split", "first", "k"),
            ("loop", "last", "x"), ("loop", "none", "x"), ("loop", "y", "k"), ("loop", "y", ""), ("loop", "y", "x", "x"),
            ("loop", "y"), ("merge", "first", "k", "a"), (), ("loop",), ("grow", "first", "k", "a"), ("fold", "y", "x"),
        )
        for growth in wrong:
            self.assertIs(told(self, is_growth, FOLDS, growth), False, growth)

    def test_adds(self):
        right = (
            ("add", "first", ("k",), "new", ("a", "b"), "b", ("on",), "k"),
            ("add", "first", ("m", "l"), "new", ("b",), "b", ("k", "on"), "l"),
            ("add", "first", ("k", "l", "m", "n"), "new", ("a", "b", "c"), "c", ("a", "b", "c", "d"), "a"),
            ("add", "first", ("k", "m"), "new", ("a", "b"), "a", ("k", "m"), "new"),
        )
        for growth in right:
            self.assertIs(told(self, is_growth, FOLDS, growth), True)
            behind = told(self, grown, FOLDS, growth)
            self.assertEqual(behind, plain_grown(FOLDS, growth))
            self.assertIs(is_dealing(behind), True)
        behind = grown(FOLDS, right[1])
        self.assertEqual(plain_results(behind)["new"], {"k": {"b": "last"}, "on": {"b": "y"}})
        self.assertEqual(plain_results(behind)["first"]["l"], {"a": "y", "b": "new", "c": "x"})
        wrong = (
            ("add", "first", ("k",), "x", ("a",), "a", ("on",), "k"), ("add", "first", ("k",), "new", (), "a", ("on",), "k"),
            ("add", "first", ("k",), "new", ("b", "a"), "a", ("on",), "k"), ("add", "first", ("k",), "new", ("a",), "b", ("on",), "k"),
            ("add", "x", ("on",), "new", ("a",), "a", ("on",), "on"), ("add", "first", (), "new", ("a",), "a", (), "new"),
            ("add", "first", ("k",), "new", ("a",), "a", ("on", "up"), "k"), ("add", "first", ("k", "n"), "new", ("a",), "a", ("k", "l"), "k"),
            ("add", "first", ("k", "m"), "new", ("a", "b"), "a", ("m", "k"), "k"), ("add", "last", ("k",), "new", ("a",), "a", ("k",), "k"),
            ("add", "first", ("k",), "new", ("a",), "a", ("on",), "l"), ("add", "first", ("k",), "new", ["a"], "a", ("on",), "k"),
            ("add", "first", ["k"], "new", ("a",), "a", ("on",), "k"), ("add", "first", ("k",), "new", ("a",), "a", ["on"], "k"),
            ("add", "first", ("k", "k"), "new", ("a",), "a", ("k", "l"), "k"), ("add", "first", ("k",), "New", ("a",), "a", ("on",), "k"),
            ("add", "first", ("k",), "new", ("a",), "a", ("On",), "k"), ("add", "first", ("k",), "new", ("a",), "a", ("on",), "K"),
            ("add", "first", ("k",), "new", ("a", "d"), "a", ("on",), "k"), ("add", "none", ("k",), "new", ("a",), "a", ("on",), "k"),
            ("add", "first", ("none",), "new", ("a",), "a", ("on",), "none"), ("add", "first", ("k",), "new", ("a",), "a", ("on",)),
        )
        for growth in wrong:
            self.assertIs(told(self, is_growth, FOLDS, growth), False, growth)

    def test_against_the_words_of_the_document(self):
        counts, dice = {}, Dice(29)
        for dealing in [FOLDS, TALK] + many_dealings(45):
            is_sound = plain_is_sound(dealing)
            for growth in some_growths(dice, dealing):
                wanted = plain_is_growth(dealing, growth)
                self.assertIs(is_growth(dealing, growth), wanted, growth)
                key = (growth[0], wanted)
                counts[key] = counts.get(key, 0) + 1
                if wanted and counts[key] % 5 == 1:
                    behind = told(self, grown, dealing, growth)
                    self.assertEqual(behind, plain_grown(dealing, growth))
                    self.assertIs(plain_is_sound(behind), is_sound)
        self.assertEqual(len(counts), 8)
        self.assertGreater(min(counts.values()), 20)

    def test_any_value(self):
        growths = (
            ("split", "first", "k", "a"),
            ("loop", "y", "on"),
            ("fold", "first", ("k", "m"), "y", "k"),
            ("add", "first", ("k",), "new", ("a", "b"), "b", ("on",), "k"),
        )
        for growth in growths:
            self.assertIs(told(self, is_growth, FOLDS, growth), True)
            for thing in variants(growth):
                self.assertIs(told(self, is_growth, FOLDS, thing), self.is_right(thing), thing)
        for thing in OTHER_KINDS + (FOLDS, growths, list(growths[0])):
            self.assertIs(told(self, is_growth, FOLDS, thing), False, thing)

    def is_right(self, thing):
        """whether a variant has the kinds of some GROWTH, and is one"""
        kinds = {"split": "sss", "loop": "ss", "fold": "stss", "add": "stststs"}
        if not isinstance(thing, tuple) or not thing or not isinstance(thing[0], str) or thing[0] not in kinds:
            return False
        wanted = kinds[thing[0]]
        return len(thing) == len(wanted) + 1 and all(self.is_kind(part, kind) for part, kind in zip(thing[1:], wanted)) and (
            plain_is_growth(FOLDS, thing)
        )

    def is_kind(self, part, kind):
        """a name, or a tuple of names"""
        if kind == "s":
            return is_plain_name(part)
        return isinstance(part, tuple) and all(is_plain_name(name) for name in part)


class Backwards(unittest.TestCase):
    def test_talk(self):
        rule = ("shortcut", "first", "ask", "talk")
        growth = told(self, backwards, TALK, rule)
        self.assertEqual(growth, ("fold", "first", ("a", "b"), "talk", "ask"))
        self.assertEqual(told(self, grown, applied(TALK, rule), growth), TALK)
        self.assertEqual(told(self, backwards, TALK, ("iterate", "talk", "again")), ("loop", "talk", "again"))
        self.assertEqual(told(self, backwards, RICH, ("merge", "first", "c", "d")), ("split", "first", "c", "d"))

    def test_each_rule_is_taken_back(self):
        counts = {}
        for dealing in [RICH, FOLDS] + many_dealings(250) + [great_dealing(seed) for seed in range(6)]:
            for rule in rules_of(dealing):
                if rule[0] != "drop":
                    behind = applied(dealing, rule)
                    growth = told(self, backwards, dealing, rule)
                    self.assertIs(is_growth(behind, growth), True)
                    self.assertEqual(grown(behind, growth), dealing)
                    counts[rule[0]] = counts.get(rule[0], 0) + 1
        self.assertGreater(min(counts.values()), 50)
        self.assertEqual(len(counts), 3)


class GrownRows(unittest.TestCase):
    def test_talk(self):
        for row in (UP, list(UP)):
            self.assertEqual(told(self, grown_row, BARE, row), TALK)
        self.assertEqual(told(self, grown_row, BARE, []), BARE)
        self.assertIs(told(self, is_grown_row, TALK, (BARE, UP)), True)
        self.assertIs(told(self, is_grown_row, TALK, (BARE, list(UP))), False)
        self.assertIs(told(self, is_grown_row, TALK, [BARE, UP]), False)
        self.assertIs(told(self, is_grown_row, TALK, (BARE, UP, ())), False)
        self.assertIs(told(self, is_grown_row, TALK, (grown(BARE, UP[0]), UP[1:])), False)
        for many in range(3):
            self.assertIs(told(self, is_grown_row, TALK, (BARE, UP[:many])), False)
        self.assertIs(told(self, is_grown_row, TALK, (TALK, ())), False)
        self.assertIs(told(self, is_grown_row, TALK, (BARE, UP + (("loop", "talk", "more"),))), False)

    def test_no_rule(self):
        for at in range(3):
            for wrong in OTHER_KINDS + (list(UP[at]), ("loop", "last", "x"), ("split", "none", "a", "b"), ("merge", "first", "a", "b")):
                row = UP[:at] + (wrong,) + UP[at:]
                self.assertEqual(raised(self, NoRule, grown_row, BARE, row), {"index": at})
                self.assertEqual(raised(self, NoRule, grown_row, BARE, list(row)), {"index": at})
                self.assertIs(told(self, is_grown_row, TALK, (BARE, row)), False)
        self.assertEqual(raised(self, NoRule, grown_row, BARE, UP + UP[2:]), {"index": 3})

    def test_any_value(self):
        for thing in variants((BARE, UP)):
            self.assertIs(told(self, is_grown_row, TALK, thing), kinds_of(thing) == kinds_of((BARE, UP)), thing)
        for thing in OTHER_KINDS + ((BARE,), (BARE, None), (None, UP), (BARE, (None,)), (PLAIN, UP)):
            self.assertIs(told(self, is_grown_row, TALK, thing), False, thing)

    def test_of_bare_ones(self):
        for dealing in (PLAIN, ALONE, BARE):
            self.assertEqual(told(self, grow_row, dealing), (dealing, ()))
            self.assertIs(told(self, is_grown_row, dealing, (dealing, ())), True)

    def test_just_sound_ones_all_of_whose_rounds_are_led_are_grown(self):
        counts = [0, 0, 0]
        for dealing in list(FIXED) + [RICH, FOLDS, TALK, nested_loops(22)] + many_dealings(500):
            why, idle = fault(dealing), sorted(set(plain_lots(dealing)) - set(plain_led(dealing)))
            if why is not None:
                counts[0] += 1
                self.assertEqual(raised(self, NoSound, grow_row, dealing), {"fault": why})
            elif idle:
                counts[1] += 1
                self.assertEqual(raised(self, NoRound, grow_row, dealing), {"name": idle[0]})
            else:
                counts[2] += 1
                bare, row = told(self, grow_row, dealing)
                self.assertIs(is_bare(bare), True)
                here = bare
                for growth in row:
                    self.assertIs(plain_is_growth(here, growth), True)
                    here = plain_grown(here, growth)
                self.assertEqual(here, dealing)
                self.assertIs(is_grown_row(dealing, (bare, row)), True)
        self.assertGreater(min(counts), 20)

    def test_great_ones(self):
        for seed in range(24):
            dealing = great_dealing(seed)
            found = told(self, grow_row, dealing)
            self.assertIs(told(self, is_grown_row, dealing, found), True)
            self.assertIs(is_grown_row(dealing, (found[0], found[1][:-1])), False)

    def test_errors_in_their_order(self):
        letters = "abcdefghijklmnopqrstuvwxyz"
        words = [one + other for one in letters for other in letters]
        for many in (400, 401):
            results = [(word, [("p", "last")]) for word in words[:many]]
            wide = made_dealing(["p"], [("first", ["p"], "p", results), ("last", ["p"], "p", [])])
            if many == 401:
                self.assertEqual(raised(self, TooMany, grow_row, wide), {"most": 400})
            else:
                self.assertIs(is_grown_row(wide, told(self, grow_row, wide)), True)
        idle = with_round(wide, ("x", "p", "p", [("on", [("p", "last")])]))
        idle = with_round(idle, ("w", "p", "p", [("on", [("p", "x")])]))
        self.assertEqual(raised(self, NoRound, grow_row, idle), {"name": "w"})
        pit = with_result(with_round(idle, ("pit", "p", "p", [("on", [("p", "pit")])])), "first", "aa", {"p": "pit"})
        self.assertEqual(raised(self, NoSound, grow_row, pit), {"fault": ("lost", "pit")})

    def test_growing_keeps_dealings_sound(self):
        # Grown at random, and taken down again.
        for seed in range(12):
            dice, here, row = Dice(seed), BARE, []
            for _ in range(25):
                growths = [growth for growth in some_growths(dice, here)[:400] if is_growth(here, growth)]
                used = [growth for growth in growths if growth[0] != "add" or growth[3] == "new"]
                growth = dice.pick(used)
                if growth[0] == "add":
                    growth = growth[:3] + ("n" + "abcdefghijklmnopqrstuvwxyz"[len(row)],) + growth[4:]
                row.append(growth)
                here = grown(here, growth)
            self.assertIsNone(fault(here))
            self.assertEqual(grown_row(BARE, row), here)
            self.assertIs(is_grown_row(here, (BARE, tuple(row))), True)
            self.assertIs(is_grown_row(here, grow_row(here)), True)
        for dealing in (LOST, CROSS, STUCK, THREE, BOTH, SALE):
            self.assertIs(is_grown_row(dealing, (BARE, UP)), False)


if __name__ == "__main__":
    unittest.main()
