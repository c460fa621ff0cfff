"""[28], and what [7] says of it: RULE ROWS."""

import unittest
from unittest import mock

from partedmeet import rulerows
from partedmeet.dealings import made_dealing, with_result, with_round
from partedmeet.errors import NoRule, NoSound, TooMany
from partedmeet.rulerows import applied_row, is_rule_row, rule_row
from partedmeet.rules import applied, is_bare, is_rule, rules_of
from partedmeet.sound import fault, is_sound
from tests.helper import ALONE, BOTH, CROSS, FIXED, LOST, OTHER_KINDS, PLAIN, SALE, STUCK, THREE, Dice, kinds_of
from tests.helper import many_dealings, plain_is_sound, raised, told, variants
from tests.plain import great_dealing, nested_loops

TALK = made_dealing(
    ["b", "s"],
    [
        ("first", ["b", "s"], "b", [("ask", [("b", "talk"), ("s", "talk")]), ("go", [("b", "last"), ("s", "last")])]),
        ("last", ["b", "s"], "b", []),
        ("talk", ["b", "s"], "s", [("again", [("b", "talk"), ("s", "talk")]), ("yes", [("b", "last"), ("s", "last")])]),
    ],
)
ROW = (("iterate", "talk", "again"), ("shortcut", "first", "ask", "talk"), ("drop", ("talk",)), ("merge", "first", "a", "go"))


def many_results(dealing):
    return sum(len(part[3]) for part in dealing[1])


def words(many):
    letters = "abcdefghijklmnopqrstuvwxyz"
    return [one + other for one in letters for other in letters][:many]


def wide(many):
    """a SOUND DEALING with so many RESULTS, all of `first`, all to `last`"""
    results = [(word, [("p", "last")]) for word in words(many)]
    return made_dealing(["p"], [("first", ["p"], "p", results), ("last", ["p"], "p", [])])


def automaton(seed, rounds, many):
    """one party; from each of so many rounds so many RESULTS to any rounds, and one that leads nearer to `last`"""
    dice = Dice(seed)
    names = ["first"] + ["r" + word for word in words(rounds - 2)] + ["last"]
    parts = [("last", ["p"], "p", [])]
    for name, there in zip(names, names[1:]):
        results = [("zz", [("p", there)])] + [(word, [("p", dice.pick(names))]) for word in words(many - 1)]
        parts.append((name, ["p"], "p", results))
    return made_dealing(["p"], parts)


def needs_a_shortcut(dealing):
    """whether there is nothing to be dropped, merged or iterated"""
    reached = ["first"]
    parts = {part[0]: part for part in dealing[1]}
    for name in reached:
        told_here = [there for _, nexts in parts[name][3] for _, there in nexts]
        reached += [there for there in dict.fromkeys(told_here) if there not in reached]
        if len({nexts for _, nexts in parts[name][3]}) < len(parts[name][3]):
            return False
        if [nexts for _, nexts in parts[name][3] if {there for _, there in nexts} == {name}] and len(parts[name][3]) > 1:
            return False
    return len(reached) == len(parts)


class RuleRows(unittest.TestCase):
    def check_row(self, dealing, row):
        """checks a row step by step, and that what must come ahead of shortcuts does; returns the most RESULTS"""
        self.assertIsInstance(row, tuple)
        most, here = many_results(dealing), dealing
        for rule in row:
            self.assertIs(is_rule(here, rule), True)
            if rule[0] == "shortcut":
                self.assertIs(needs_a_shortcut(here), True)
            here = applied(here, rule)
            most = max(most, many_results(here))
        self.assertIs(is_bare(here), True)
        return most

    def test_talk(self):
        bare = told(self, applied_row, TALK, ROW)
        self.assertEqual(bare[1][0][3], (("a", (("b", "last"), ("s", "last"))),))
        self.assertEqual(told(self, applied_row, TALK, list(ROW)), bare)
        self.assertEqual(told(self, applied_row, TALK, ()), TALK)
        self.assertIs(told(self, is_rule_row, TALK, ROW), True)
        self.assertIs(told(self, is_rule_row, TALK, list(ROW)), False)
        for many in range(4):
            self.assertIs(told(self, is_rule_row, TALK, ROW[:many]), False)
        self.check_row(TALK, told(self, rule_row, TALK))

    def test_no_rule(self):
        for at in range(4):
            for wrong in OTHER_KINDS + (ROW[at - 1], list(ROW[at]), ("drop", ("first",)), ("iterate", "talk")):
                row = ROW[:at] + (wrong,) + ROW[at:]
                if wrong != ROW[at]:
                    self.assertEqual(raised(self, NoRule, applied_row, TALK, row), {"index": at})
                    self.assertEqual(raised(self, NoRule, applied_row, TALK, list(row)), {"index": at})
                    self.assertIs(told(self, is_rule_row, TALK, row), False)
        self.assertEqual(raised(self, NoRule, applied_row, TALK, ROW + ROW[:1]), {"index": 4})
        self.assertEqual(raised(self, NoRule, applied_row, TALK, [ROW[0], ROW[0]]), {"index": 1})

    def test_bare_ones(self):
        for dealing in (PLAIN, ALONE):
            self.assertEqual(told(self, rule_row, dealing), ())
            self.assertIs(told(self, is_rule_row, dealing, ()), True)
            self.assertEqual(told(self, applied_row, dealing, []), dealing)
            for thing in OTHER_KINDS:
                self.assertIs(told(self, is_rule_row, dealing, thing), kinds_of(thing) == kinds_of(()))

    def test_any_value(self):
        for thing in variants(ROW):
            wanted = kinds_of(thing) == kinds_of(ROW)
            # Some parts may be exchanged: what is told is checked by the steps.
            if not wanted and self.is_row_by_steps(thing):
                wanted = True
            self.assertIs(told(self, is_rule_row, TALK, thing), wanted, thing)
        for dealing in (BOTH, LOST, CROSS):
            for thing in OTHER_KINDS + (dealing, (dealing,)):
                self.assertIs(told(self, is_rule_row, dealing, thing), False)

    def is_row_by_steps(self, thing):
        here = TALK
        for rule in thing if isinstance(thing, tuple) else [None]:
            if kinds_of(rule) not in [kinds_of(other) for other in rules_of(here)]:
                return False
            here = applied(here, rule)
        return is_bare(here)

    def test_it_exists_exactly_if_the_dealing_is_sound(self):
        counts = [0, 0]
        for dealing in list(FIXED) + [TALK, nested_loops(22)] + many_dealings(500):
            why = fault(dealing)
            counts[why is None] += 1
            if why is None:
                row = told(self, rule_row, dealing)
                self.check_row(dealing, row)
                self.assertIs(told(self, is_rule_row, dealing, row), True)
                self.assertIs(is_rule_row(dealing, row[:-1]), row == ())
            else:
                self.assertEqual(raised(self, NoSound, rule_row, dealing), {"fault": why})
        self.assertGreater(min(counts), 100)

    def test_no_rules_lead_what_is_not_sound_to_a_bare_one(self):
        for dealing in (LOST, CROSS, STUCK, THREE):
            looked_at = [dealing]
            for here in looked_at:
                self.assertIs(is_bare(here), False)
                behind = [applied(here, rule) for rule in rules_of(here)]
                looked_at += [there for there in behind if len(looked_at) < 200 and there not in looked_at]

    def test_rounds_that_are_not_led_are_dropped_first(self):
        # Not LED: a pit, and what could be merged and iterated there.
        idle = ("idle", "b", "b", [("k", [("b", "idle")]), ("l", [("b", "idle")]), ("m", [("b", "talk")])])
        dealing = with_round(with_round(TALK, ("pit", "s", "s", [("on", [("s", "pit")])])), idle)
        row = told(self, rule_row, dealing)
        self.assertEqual(row[0], ("drop", ("idle", "pit")))
        self.check_row(dealing, row)

    def test_great_ones(self):
        for seed in range(32):
            dealing = great_dealing(seed)
            row = told(self, rule_row, dealing)
            self.check_row(dealing, row)
            self.assertIs(is_rule_row(dealing, row), True)

    def test_parallel_choices_do_not_grow(self):
        # Each of six parties goes to one of three rounds of its own: together they do so in 3 to the power of 6 ways.
        parties = "abcdef"
        start = [("on", [(party, "r" + party) for party in parties])]
        rounds = [("first", list(parties), "a", start), ("last", list(parties), "a", [])]
        for party in parties:
            rounds.append(("r" + party, [party], party, [(word, [(party, "s" + party + word)]) for word in "klm"]))
            for word in "klm":
                results = [("on", [(party, "last")]), ("up", [(party, "last")])]
                rounds.append(("s" + party + word, [party], party, results))
        dealing = made_dealing(list(parties), rounds)
        self.assertEqual(many_results(dealing), 55)
        self.assertEqual(self.check_row(dealing, told(self, rule_row, dealing)), 55)

    def test_400_results_and_401(self):
        row = told(self, rule_row, wide(400))
        self.assertEqual(len(row), 399)
        self.assertIs(is_rule_row(wide(400), row), True)
        self.assertEqual(raised(self, TooMany, rule_row, wide(401)), {"most": 400})
        # Those of all rounds together count, what is not LED too.
        on = [("on", [("p", "last")])]
        self.assertEqual(raised(self, TooMany, rule_row, with_round(wide(400), ("x", "p", "p", on))), {"most": 400})
        row = rule_row(with_round(wide(399), ("x", "p", "p", on)))
        self.assertEqual(row[0], ("drop", ("x",)))
        self.assertIs(is_rule_row(with_round(wide(399), ("x", "p", "p", on)), row), True)

    def test_no_sound_comes_ahead_of_too_many(self):
        dealing = with_round(wide(401), ("pit", "p", "p", [("on", [("p", "pit")])]))
        stuck = with_result(dealing, "first", "aa", {"p": "pit"})
        self.assertEqual(raised(self, NoSound, rule_row, stuck), {"fault": ("lost", "pit")})

    def test_too_many_on_the_way(self):
        # Each of these has more RESULTS somewhere on its way than at first: `most`. So it is told with just as many.
        grew = 0
        for seed in range(8):
            dealing = automaton(seed, 14, 5)
            row = told(self, rule_row, dealing)
            most = self.check_row(dealing, row)
            grew += most > many_results(dealing)
            with mock.patch.object(rulerows, "MOST_RESULTS", most):
                self.assertEqual(rule_row(dealing), row)
            with mock.patch.object(rulerows, "MOST_RESULTS", most - 1):
                self.assertEqual(raised(self, TooMany, rule_row, dealing), {"most": most - 1})
        self.assertGreater(grew, 2)

    def test_from_less_than_400_to_more(self):
        dealing = automaton(2, 36, 8)
        self.assertIs(is_sound(dealing), True)
        self.assertLessEqual(many_results(dealing), 280)
        with self.assertRaises(TooMany) as caught:
            rule_row(dealing)
        self.assertEqual(caught.exception.most, 400)

    def test_what_is_sound_by_rules_is_sound_by_runs(self):
        for dealing in many_dealings(150):
            if plain_is_sound(dealing):
                self.assertIs(is_bare(applied_row(dealing, rule_row(dealing))), True)
            else:
                self.assertRaises(NoSound, rule_row, dealing)
        for dealing in (SALE, BOTH):
            self.assertEqual(applied_row(dealing, rule_row(dealing))[0], dealing[0])


if __name__ == "__main__":
    unittest.main()
