"""[33], and what [8] says of it: games, PLANS and REFUSALS."""

import itertools
import unittest

from partedmeet.dealings import all_deeds, chooser_of, rounds_of, with_result, with_round
from partedmeet.dealingtexts import read_dealing
from partedmeet.errors import TooMany
from partedmeet.games import can_force, can_force_slowly, forced, is_plan, is_refusal, plan, refusal
from tests.helper import ALONE, BOTH, OTHER_KINDS, PLAIN, SALE, kinds_of, many_dealings, plain_deeds, plain_is_sound
from tests.helper import plain_lots, plain_met, plain_nexts, raised, told, variants
from tests.plain import JUST_2000, OVER_2000, great_dealing, nested_loops
from tests.test_grown import TALK

# Of `first` a chooses, of x and y b, of z c; from x all goes back, or on; z is not LED.
FOUR = read_dealing(
    "parties a b c\nround first a a b c\nresult k a x b x c x\nresult l a y b y c last\nround x b a b c\n"
    "result back a first b first c first\nresult on a last b last c last\nround y b a b\nresult k a last b last\n"
    "result l a last b last\nround z c c\nresult k c x\nresult l c z\nround last a a b c"
)


def choosers(dealing):
    return {part[0]: part[2] for part in dealing[1]}


def all_ours(dealing):
    return [ours for many in range(len(dealing[0]) + 1) for ours in itertools.combinations(dealing[0], many)]


def plain_forced(dealing, ours, told_words=None):
    """the least set, by the words of [33]: made greater as long as some round must be in it"""
    nexts, who, found = plain_nexts(dealing), choosers(dealing), {"last"}
    while True:
        more = set()
        for name in who:
            words = [word for at, word in nexts if at == name]
            if told_words is not None and who[name] in ours:
                words = [word for word in words if told_words.get(name) == word]
            good = [set(nexts[(name, word)].values()) <= found for word in words]
            if name != "last" and (any(good) if who[name] in ours else all(good)):
                more.add(name)
        if more <= found:
            return tuple(sorted(found))
        found |= more


def plain_can_force(dealing, ours, is_foe):
    """by all MET STANDINGS, by the words of [33]"""
    standings, who = plain_met(dealing), choosers(dealing)
    steps = {standing: plain_deeds(dealing, standing) for standing in standings}
    found = {tuple((party, "last") for party in dealing[0])}
    while True:
        more = set()
        for standing in standings:
            ends = []
            for name in {deed[0] for deed, _ in steps[standing]}:
                into = [behind in found for deed, behind in steps[standing] if deed[0] == name]
                ends.append(any(into) if who[name] in ours else all(into))
            if steps[standing] and (all(ends) if is_foe else any(ends)):
                more.add(standing)
        if more <= found:
            return standings[0] in found
        found |= more


def plain_is_refusal(dealing, ours, names):
    nexts, who = plain_nexts(dealing), choosers(dealing)
    if "first" not in names or "last" in names or list(names) != sorted(set(names)) or not set(names) <= set(who):
        return False
    for name in names:
        kept = [bool(set(nexts[(at, word)].values()) & set(names)) for at, word in nexts if at == name]
        if not (all(kept) if who[name] in ours else any(kept)):
            return False
    return True


class Games(unittest.TestCase):
    def test_talk(self):
        wanted = {(): ("last",), ("b",): ("first", "last"), ("s",): ("first", "last", "talk")}
        wanted[("b", "s")] = ("first", "last", "talk")
        for ours, names in wanted.items():
            self.assertEqual(told(self, forced, TALK, ours), names)
            self.assertIs(told(self, can_force, TALK, ours), "first" in names)
            for is_foe in (True, False):
                self.assertIs(told(self, can_force_slowly, TALK, ours, is_foe), "first" in names)
        self.assertEqual(told(self, plan, TALK, ("b",)), {"first": "go"})
        self.assertEqual(told(self, plan, TALK, ("s",)), {"talk": "yes"})
        self.assertIsNone(told(self, plan, TALK, ()))
        self.assertEqual(told(self, refusal, TALK, ()), ("first", "talk"))
        self.assertIsNone(told(self, refusal, TALK, ("s",)))

    def test_four(self):
        self.assertEqual(told(self, forced, FOUR, ()), ("last", "y"))
        self.assertEqual(told(self, forced, FOUR, ("a",)), ("first", "last", "x", "y"))
        self.assertEqual(told(self, forced, FOUR, ("b",)), ("first", "last", "x", "y"))
        self.assertEqual(told(self, forced, FOUR, ("c",)), ("last", "y"))
        self.assertEqual(told(self, forced, FOUR, ("a", "c")), ("first", "last", "x", "y", "z"))
        self.assertEqual(told(self, plan, FOUR, ("a",)), {"first": "l"})
        self.assertIs(told(self, is_plan, FOUR, ("b",), {"x": "on", "y": "k"}), True)
        self.assertIs(told(self, is_plan, FOUR, ("b",), {"x": "on"}), False)
        self.assertIs(told(self, is_plan, FOUR, ("b",), {"y": "l", "x": "on"}), True)
        self.assertIs(told(self, is_plan, FOUR, ("b",), {"y": "l", "x": "back"}), False)
        self.assertIs(told(self, is_refusal, FOUR, ("c",), ("first", "x")), True)
        self.assertIs(told(self, is_refusal, FOUR, ("c",), ("first", "x", "z")), True)
        self.assertIs(told(self, is_refusal, FOUR, (), ("first", "x", "y")), False)
        self.assertIs(told(self, is_refusal, FOUR, ("b",), ("first", "x")), False)

    def test_without_choices(self):
        for dealing, parties in ((PLAIN, ("a", "b")), (ALONE, ("p",))):
            for ours in ((), parties):
                self.assertEqual(told(self, forced, dealing, ours), ("first", "last"))
                self.assertIs(told(self, can_force, dealing, ours), True)
                self.assertEqual(told(self, plan, dealing, ours), {"first": "go"} if ours else {})
                self.assertIsNone(told(self, refusal, dealing, ours))
        self.assertIs(told(self, is_plan, ALONE, ("p",), {}), False)
        self.assertIs(told(self, is_plan, ALONE, (), {}), True)

    def test_all_ours_can_force_each_sound_dealing(self):
        for dealing in [BOTH, SALE, TALK, FOUR, nested_loops(22)] + [great_dealing(seed) for seed in range(16)]:
            self.assertIs(told(self, can_force, dealing, dealing[0]), True)

    def test_last_is_never_asked(self):
        # The chooser of `last` does not matter, ours or theirs.
        for ours in all_ours(FOUR):
            self.assertIn("last", forced(FOUR, ours))
        self.assertIs(told(self, is_plan, FOUR, ("a", "b", "c"), {"first": "l", "y": "k", "last": "k"}), False)

    def test_against_plain_searches(self):
        counts = [0, 0]
        for dealing in [FOUR, BOTH, SALE] + many_dealings(250):
            if plain_is_sound(dealing):
                for ours in all_ours(dealing):
                    wanted = plain_forced(dealing, ours)
                    can = "first" in wanted
                    counts[can] += 1
                    self.assertEqual(told(self, forced, dealing, ours), wanted)
                    self.assertIs(told(self, can_force, dealing, ours), can)
                    for is_foe in (True, False):
                        self.assertIs(plain_can_force(dealing, ours, is_foe), can)
                        self.assertIs(told(self, can_force_slowly, dealing, ours, is_foe), can)
                    self.check_either(dealing, ours, can)
        self.assertGreater(min(counts), 100)

    def check_either(self, dealing, ours, can):
        """just one of both, PLAN and REFUSAL, is told, and is one"""
        words, names = told(self, plan, dealing, ours), told(self, refusal, dealing, ours)
        if can:
            self.assertIsNone(names)
            self.assertEqual(list(words), sorted(words))
            self.assertTrue(all(chooser_of(dealing, name) in ours for name in words))
            self.assertIn("first", plain_forced(dealing, ours, words))
            self.assertIs(told(self, is_plan, dealing, ours, words), True)
        else:
            self.assertIsNone(words)
            self.assertIs(plain_is_refusal(dealing, ours, names), True)
            self.assertIs(told(self, is_refusal, dealing, ours, names), True)

    def test_in_a_dealing_that_is_met_otherwise(self):
        # can_force_slowly goes through STANDINGS: whether each OPEN round counts, or some, matters there.
        text = "parties a b\nround first a a b\nresult go a x b y\nround x a a\nresult k a x\nresult l a last\n"
        dealing = read_dealing(text + "round y b b\nresult k b y\nresult l b last\nround last a a b")
        for ours, wanted in (((), False), (("a",), False), (("b",), False), (("a", "b"), True)):
            for is_foe in (True, False):
                self.assertIs(told(self, can_force_slowly, dealing, ours, is_foe), wanted)
            self.assertIs(told(self, can_force, dealing, ours), wanted)

    def test_great_ones(self):
        for seed in range(16):
            dealing = great_dealing(seed)
            for ours in (dealing[0][:1], dealing[0][::2], dealing[0]):
                wanted = plain_forced(dealing, ours)
                self.assertEqual(told(self, forced, dealing, ours), wanted)
                self.check_either(dealing, ours, "first" in wanted)

    def test_up_to_2000(self):
        for is_foe in (True, False):
            self.assertIs(told(self, can_force_slowly, JUST_2000, ("a",), is_foe), True)
            loop = with_result(JUST_2000, "bx", "up", {"b": "bx"})
            self.assertIs(told(self, can_force_slowly, loop, ("c",), is_foe), False)
            self.assertIs(told(self, can_force_slowly, loop, ("b",), is_foe), True)
            found = raised(self, TooMany, can_force_slowly, OVER_2000, ("a",), is_foe)
            self.assertEqual(found, {"most": 2000})
        self.assertIs(told(self, can_force, OVER_2000, ()), True)


class PlansAndRefusals(unittest.TestCase):
    def all_plans(self, dealing, ours):
        """all dicts from rounds of ours to words"""
        mine = [name for name in rounds_of(dealing) if chooser_of(dealing, name) in ours and name != "last"]
        words = [[None] + [word for at, word in all_deeds(dealing) if at == name] for name in mine]
        for row in itertools.islice(itertools.product(*words), 200):
            yield {name: word for name, word in zip(mine, row) if word}

    def test_all_plans_against_a_plain_search(self):
        counts = [0, 0]
        for dealing in [FOUR] + many_dealings(60):
            if plain_is_sound(dealing):
                for ours in all_ours(dealing):
                    for thing in self.all_plans(dealing, ours):
                        wanted = "first" in plain_forced(dealing, ours, thing)
                        counts[wanted] += 1
                        self.assertIs(told(self, is_plan, dealing, ours, thing), wanted)
        self.assertGreater(min(counts), 200)

    def test_all_refusals_against_a_plain_search(self):
        counts = [0, 0]
        for dealing in [FOUR] + many_dealings(60):
            if plain_is_sound(dealing):
                names = sorted(plain_lots(dealing))
                rows = [row for many in range(len(names) + 1) for row in itertools.combinations(names, many)]
                for ours in all_ours(dealing):
                    for row in rows + [row[::-1] for row in rows if len(row) == 2]:
                        wanted = plain_is_refusal(dealing, ours, row)
                        counts[wanted] += 1
                        self.assertIs(is_refusal(dealing, ours, row), wanted)
        self.assertGreater(min(counts), 50)

    def test_any_plan(self):
        right = {"first": "l"}
        self.assertIs(told(self, is_plan, FOUR, ("a",), right), True)
        for thing in OTHER_KINDS + (FOUR, [("first", "l")], (("first", "l"),), {"first": "k"}, {"first": "none"}, {}):
            self.assertIs(told(self, is_plan, FOUR, ("a",), thing), False, thing)
        for word in variants("l"):
            self.assertIs(told(self, is_plan, FOUR, ("a",), {"first": word}), kinds_of(word) == kinds_of("l"), word)
        more = ({"x": "on"}, {"none": "l"}, {"last": "l"}, {True: "l"}, {None: None}, {("first",): "l"}, {1: 2}, {"y": "k"})
        for part in more:
            self.assertIs(told(self, is_plan, FOUR, ("a",), {**right, **part}), False, part)

    def test_a_plan_may_have_more_rounds_than_needed(self):
        self.assertIs(told(self, is_plan, FOUR, ("a", "b"), {"first": "k", "x": "on"}), True)
        self.assertIs(told(self, is_plan, FOUR, ("a", "b"), {"first": "k", "x": "on", "y": "l"}), True)
        self.assertIs(told(self, is_plan, FOUR, ("a", "b"), {"first": "k", "x": "back", "y": "l"}), False)
        self.assertIs(told(self, is_plan, FOUR, ("a", "c"), {"first": "l", "z": "l"}), True)

    def test_any_refusal(self):
        for thing in variants(("first", "x")):
            wanted = kinds_of(thing) == kinds_of(("first", "x"))
            self.assertIs(told(self, is_refusal, FOUR, (), thing), wanted, thing)
        wrong = (["first", "x"], ("x", "first"), ("first", "first", "x"), ("first", "none", "x"), ("first", "last", "x"), "first")
        for thing in OTHER_KINDS + wrong + (FOUR, {"first": "x"}, ("first", ["x"]), ("x",), ("first",)):
            self.assertIs(told(self, is_refusal, FOUR, (), thing), False, thing)

    def test_what_is_told_is_new(self):
        found = plan(FOUR, ("a",))
        found["first"] = "k"
        self.assertEqual(plan(FOUR, ("a",)), {"first": "l"})

    def test_rounds_that_are_not_led(self):
        self.assertIn("z", told(self, forced, FOUR, ("b", "c")))
        self.assertNotIn("z", told(self, forced, FOUR, ("c",)))
        pit = with_round(FOUR, ("pit", "a", "a", [("on", [("a", "pit")])]))
        self.assertEqual(told(self, forced, pit, ("a",)), forced(FOUR, ("a",)))
        self.assertIs(told(self, is_refusal, pit, (), ("first", "pit", "x")), True)


if __name__ == "__main__":
    unittest.main()
