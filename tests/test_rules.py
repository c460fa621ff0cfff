"""[27], and what [7] says of it: RULES, and DEALINGS that are BARE."""

import itertools
import unittest

from partedmeet.dealings import made_dealing, with_result, with_round, without_result
from partedmeet.dealingtexts import read_dealing
from partedmeet.forms import is_dealing
from partedmeet.rules import applied, is_bare, is_rule, rules_of
from tests.helper import ALONE, BOTH, FIXED, LOST, OTHER_KINDS, PLAIN, SALE, STUCK, kinds_of, many_dealings
from tests.helper import plain_is_sound, plain_led, plain_lots, plain_nexts, spoil, told, variants
from tests.plain import great_dealing

LETTERS = "abcdefghijklmnopqrstuvwxyz"
# Words of each sort of RULE can stand here, and near misses of each.
RICH = read_dealing(
    "parties a b\nround first a a b\nresult again a first b first\nresult c a last b last\nresult d a last b last\n"
    "result e a x b last\nresult f a x b y\nresult g a y b y\nround x a a\nresult k a last\nresult on a x\n"
    "round y a a b\nresult k a last b last\nresult l a y b y\nround z b b\nresult on b z\nround idle a a\n"
    "result k a x\nresult on a x\nround last a a b"
)


def plain_rules(dealing):
    """all RULES, by the words of [27]"""
    lots, nexts, names = plain_lots(dealing), plain_nexts(dealing), plain_led(dealing)
    found = []
    for (name, word), places in nexts.items():
        for (at, other), others in nexts.items():
            if at == name and word < other and others == places:
                found.append(("merge", name, word, other))
        if set(places.values()) == {name} and [word] != [other for at, other in nexts if at == name]:
            found.append(("iterate", name, word))
        for there in lots:
            if there not in (name, "last") and all(places.get(party) == there for party in lots[there]):
                found.append(("shortcut", name, word, there))
    idle = tuple(sorted(name for name in lots if name != "last" and name not in names))
    return sorted(found + ([("drop", idle)] if idle else []))


def plain_words():
    """all words in the order of FRESH WORDS, up to three letters"""
    return ["".join(row) for many in (1, 2, 3) for row in itertools.product(LETTERS, repeat=many)]


def plain_applied(dealing, rule):
    """the DEALING to which a RULE leads, by the words of [27]"""
    rounds = {part[0]: [part[1], part[2], {word: dict(nexts) for word, nexts in part[3]}] for part in dealing[1]}
    if rule[0] == "drop":
        for name in rule[1]:
            del rounds[name]
    else:
        results = rounds[rule[1]][2]
        gone = results.pop(rule[3] if rule[0] == "merge" else rule[2])
        if rule[0] == "shortcut":
            fresh = [word for word in plain_words() if word not in results]
            for word, (_, nexts) in zip(fresh, sorted(rounds[rule[3]][2].items())):
                results[word] = {**gone, **nexts}
    parts = []
    for name, (lot, chooser, results) in rounds.items():
        parts.append((name, lot, chooser, [(word, list(results[word].items())) for word in results]))
    return made_dealing(dealing[0], parts)


class Rules(unittest.TestCase):
    def test_rich(self):
        wanted = [
            ("drop", ("idle", "z")),
            ("iterate", "first", "again"),
            ("iterate", "x", "on"),
            ("iterate", "y", "l"),
            ("merge", "first", "c", "d"),
            ("merge", "idle", "k", "on"),
            ("shortcut", "first", "e", "x"),
            ("shortcut", "first", "f", "x"),
            ("shortcut", "first", "g", "y"),
            ("shortcut", "idle", "k", "x"),
            ("shortcut", "idle", "on", "x"),
        ]
        self.assertEqual(told(self, rules_of, RICH), wanted)
        for rule in wanted:
            self.assertIs(told(self, is_rule, RICH, rule), True)
            self.assertEqual(told(self, applied, RICH, rule), plain_applied(RICH, rule))

    def test_near_misses(self):
        wrong = (
            ("merge", "first", "d", "c"), ("merge", "first", "c", "c"), ("merge", "first", "c", "e"),
            ("merge", "first", "c", "none"), ("merge", "none", "c", "d"), ("merge", "first", "aa", "ab"),
            ("iterate", "z", "on"), ("iterate", "first", "c"), ("iterate", "y", "k"), ("iterate", "none", "k"),
            ("iterate", "first", "none"), ("iterate", "last", "on"),
            ("shortcut", "first", "c", "last"), ("shortcut", "first", "again", "first"), ("shortcut", "first", "f", "y"),
            ("shortcut", "y", "l", "y"), ("shortcut", "x", "on", "x"), ("shortcut", "first", "e", "none"),
            ("shortcut", "first", "none", "x"), ("shortcut", "none", "e", "x"), ("shortcut", "x", "k", "last"),
            ("drop", ("idle",)), ("drop", ("z", "idle")), ("drop", ()), ("drop", ["idle", "z"]), ("drop", ("idle", "x", "z")),
            ("drop",), ("drop", ("idle", "z"), ()), ("merge", "first", "c"), ("iterate", "first", "again", "again"),
            ("shortcut", "first", "e"), ("cut", "first", "e", "x"), (), ("merge",), ("shortcut", "first", "e", "x", "x"),
        )
        for rule in wrong:
            self.assertIs(told(self, is_rule, RICH, rule), False, rule)

    def test_the_only_result_is_not_iterated(self):
        dealing = read_dealing("parties a\nround first a a\nresult go a first\nround last a a")
        self.assertEqual(told(self, rules_of, dealing), [])
        two = with_result(dealing, "first", "on", {"a": "first"})
        self.assertEqual(rules_of(two), [("iterate", "first", "go"), ("iterate", "first", "on"), ("merge", "first", "go", "on")])

    def test_last_stays_where_it_is_not_led(self):
        dealing = read_dealing("parties a\nround first a a\nresult go a first\nround last a a\nround x a a\nresult on a last")
        self.assertEqual(told(self, rules_of, dealing), [("drop", ("x",))])
        behind = told(self, applied, dealing, ("drop", ("x",)))
        self.assertEqual([part[0] for part in behind[1]], ["first", "last"])

    def test_a_shortcut_to_first(self):
        text = "parties a b\nround first a a b\nresult go a x b x\nround x a a b\nresult back a first b first\n"
        dealing = read_dealing(text + "result on a last b last\nround last a a b")
        self.assertIn(("shortcut", "x", "back", "first"), told(self, rules_of, dealing))
        self.assertIn(("shortcut", "first", "go", "x"), rules_of(dealing))
        behind = told(self, applied, dealing, ("shortcut", "x", "back", "first"))
        self.assertEqual(plain_nexts(behind)[("x", "a")], {"a": "x", "b": "x"})

    def test_a_round_that_wants_more_is_not_cut_short(self):
        text = "parties a b\nround first a a b\nresult go a x b y\nround x a a\nresult on a y\nround y a a b\n"
        dealing = read_dealing(text + "result k a last b last\nround last a a b")
        self.assertEqual(told(self, rules_of, dealing), [("shortcut", "first", "go", "x")])

    def test_fresh_words(self):
        # The word that goes may be told again; words that stay are passed over, "a", "c" and "aa" here.
        nexts = [("p", "x")]
        words = [word for word in plain_words()[:40] if word not in ("b", "d")]
        first = ("first", ["p"], "p", [("b", nexts), ("a", [("p", "last")]), ("c", [("p", "last")]), ("aa", [("p", "last")])])
        rounds = [first, ("last", ["p"], "p", []), ("x", ["p"], "p", [(word, [("p", "last")]) for word in words])]
        dealing = made_dealing(["p"], rounds)
        behind = told(self, applied, dealing, ("shortcut", "first", "b", "x"))
        fresh = [word for word in plain_words() if word not in ("a", "c", "aa")][:38]
        self.assertEqual(fresh[:3] + fresh[23:26], ["b", "d", "e", "z", "ab", "ac"])
        self.assertEqual([word for word, _ in behind[1][0][3]], sorted(fresh + ["a", "c", "aa"]))

    def test_far_fresh_words(self):
        results = [(word, [("p", "last")]) for word in plain_words()[:704]]
        rounds = [("first", ["p"], "p", [("go", [("p", "x")])]), ("last", ["p"], "p", []), ("x", ["p"], "p", results)]
        dealing = made_dealing(["p"], rounds)
        behind = applied(dealing, ("shortcut", "first", "go", "x"))
        self.assertEqual([word for word, _ in behind[1][0][3]], sorted(plain_words()[:704]))
        self.assertIn("aaa", plain_words()[:704])

    def test_the_results_of_the_round_cut_short_come_in_order(self):
        text = "parties a b c\nround first a a b c\nresult on a x b x c y\nround x b a b\nresult m a x b x\nresult l a y b last\n"
        text = text + "result n a last b last\nround y c a c\nresult k a last c last\nround last a a b c"
        behind = told(self, applied, read_dealing(text), ("shortcut", "first", "on", "x"))
        found = {word: nexts for (name, word), nexts in plain_nexts(behind).items() if name == "first"}
        wanted = {"a": {"a": "y", "b": "last", "c": "y"}, "b": {"a": "x", "b": "x", "c": "y"}}
        self.assertEqual(found, {**wanted, "c": {"a": "last", "b": "last", "c": "y"}})

    def test_against_a_plain_search(self):
        sorts = {}
        for dealing in [RICH] + many_dealings(300):
            wanted = plain_rules(dealing)
            self.assertEqual(told(self, rules_of, dealing), wanted)
            for rule in wanted:
                sorts[rule[0]] = sorts.get(rule[0], 0) + 1
                self.assertIs(told(self, is_rule, dealing, rule), True)
                behind = told(self, applied, dealing, rule)
                self.assertEqual(behind, plain_applied(dealing, rule))
                self.assertIs(is_dealing(behind), True)
        self.assertGreater(min(sorts.values()), 30)
        self.assertEqual(len(sorts), 4)

    def test_all_tuples_of_names_there(self):
        for dealing in [RICH] + many_dealings(12):
            wanted = plain_rules(dealing)
            words = sorted({word for _, word in plain_nexts(dealing)} | {"none"})
            names = sorted(plain_lots(dealing)) + ["none"]
            for name, word in itertools.product(names, words):
                thing = ("iterate", name, word)
                self.assertIs(is_rule(dealing, thing), thing in wanted)
                for thing in [("merge", name, word, other) for other in words]:
                    self.assertIs(is_rule(dealing, thing), thing in wanted)
                for thing in [("shortcut", name, word, there) for there in names]:
                    self.assertIs(is_rule(dealing, thing), thing in wanted)

    def test_any_value(self):
        right = [kinds_of(rule) for rule in plain_rules(RICH)]
        for rule in plain_rules(RICH):
            for thing in variants(rule):
                self.assertIs(told(self, is_rule, RICH, thing), kinds_of(thing) in right, thing)
        for thing in OTHER_KINDS + (RICH, plain_rules(RICH), ("drop", "idle"), ("iterate", "first", ["again"])):
            self.assertIs(told(self, is_rule, RICH, thing), False, thing)

    def test_the_list_is_new(self):
        found = rules_of(RICH)
        spoil(found)
        self.assertEqual(rules_of(RICH), plain_rules(RICH))

    def test_rules_lead_from_sound_ones_to_sound_ones_alone(self):
        counts = [0, 0]
        for dealing in [RICH] + many_dealings(250):
            is_sound = plain_is_sound(dealing)
            for rule in rules_of(dealing):
                counts[is_sound] += 1
                self.assertIs(plain_is_sound(applied(dealing, rule)), is_sound)
        self.assertGreater(min(counts), 100)

    def test_great_ones(self):
        for seed in range(16):
            dealing = great_dealing(seed)
            found = told(self, rules_of, dealing)
            self.assertEqual(found, plain_rules(dealing))
            for rule in found[::5]:
                self.assertEqual(told(self, applied, dealing, rule), plain_applied(dealing, rule))


class Bare(unittest.TestCase):
    def test_bare_ones_and_others(self):
        for dealing in (PLAIN, ALONE):
            self.assertIs(told(self, is_bare, dealing), True)
            self.assertEqual(told(self, rules_of, dealing), [])
        for dealing in (BOTH, SALE, LOST, STUCK, RICH):
            self.assertIs(told(self, is_bare, dealing), False)

    def test_one_more_of_anything(self):
        places = {"a": "last", "b": "last"}
        self.assertIs(told(self, is_bare, with_result(PLAIN, "first", "on", places)), False)
        self.assertIs(told(self, is_bare, without_result(with_result(PLAIN, "first", "on", places), "first", "go")), True)
        self.assertIs(told(self, is_bare, with_round(PLAIN, ("x", "a", "a", [("on", [("a", "last")])]))), False)
        for nexts in ({"a": "first", "b": "last"}, {"a": "last", "b": "first"}, {"a": "first", "b": "first"}):
            self.assertIs(told(self, is_bare, with_result(PLAIN, "first", "go", nexts)), False)

    def test_no_rule_leads_on_from_a_bare_one_and_from_fixed_ones_some_does(self):
        for dealing in FIXED:
            if plain_is_sound(dealing):
                self.assertIs(rules_of(dealing) == [], is_bare(dealing))


if __name__ == "__main__":
    unittest.main()
