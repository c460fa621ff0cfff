"""[31]: CHANCES of RESULTS, and what is expected."""

import unittest
from fractions import Fraction

from partedmeet.chances import are_chances, chance_of, expected_by_rules, expected_sum, visits
from partedmeet.dealings import all_deeds, lot_of, with_round, words_of
from partedmeet.dealingtexts import read_dealing
from partedmeet.errors import TooMany
from partedmeet.forms import is_fraction
from tests.helper import ALONE, BOTH, OTHER_KINDS, PLAIN, SALE, Dice, kinds_of, many_dealings, plain_deeds
from tests.helper import plain_is_sound, plain_led, plain_nexts, raised, told, variants
from tests.plain import chains, great_dealing, nested_loops
from tests.test_grown import TALK
from tests.test_rulerows import wide

HALVES = {("first", "ask"): (1, 2), ("first", "go"): (1, 2), ("talk", "again"): (1, 3), ("talk", "yes"): (2, 3)}
PRICES = {("first", "ask"): 1, ("first", "go"): 5, ("talk", "again"): 2, ("talk", "yes"): 1}


def told_as(fraction):
    return (fraction.numerator, fraction.denominator)


def some_chances(dealing, seed, most):
    dice, found = Dice(seed), {}
    for name in {deed[0]: True for deed in all_deeds(dealing)}:
        weights = {word: 1 + dice.below(most) for word in words_of(dealing, name)}
        for word, weight in weights.items():
            found[(name, word)] = told_as(Fraction(weight, sum(weights.values())))
    return found


def solved(rows, sides):
    """what solves rows of Fractions, each with its side"""
    rows = [list(row) + [side] for row, side in zip(rows, sides)]
    for at in range(len(rows)):
        pivot = next(row for row in rows[at:] if row[at])
        rows.remove(pivot)
        rows.insert(at, [worth / pivot[at] for worth in pivot])
        for index, row in enumerate(rows):
            if index != at and row[at]:
                rows[index] = [worth - row[at] * top for worth, top in zip(row, rows[at])]
    return [row[-1] for row in rows]


def plain_visits(dealing, chances, which):
    """how often each round is done, by all STANDINGS; which of the OPEN rounds is next is told by which, 0 or -1"""
    start = tuple((party, "first") for party in dealing[0])
    found, steps = [start], {}
    for standing in found:
        deeds = plain_deeds(dealing, standing)
        names = sorted({deed[0] for deed, _ in deeds})
        steps[standing] = [(deed, behind) for deed, behind in deeds if deed[0] == names[which]]
        found += [behind for behind in dict.fromkeys(behind for _, behind in steps[standing]) if behind not in found]
    rows = [[Fraction(int(one == other)) for other in found] for one in found]
    for column, standing in enumerate(found):
        for deed, behind in steps[standing]:
            rows[found.index(behind)][column] -= Fraction(*chances[deed])
    often = solved(rows, [Fraction(int(standing == start)) for standing in found])
    sums = {name: Fraction(0) for name in plain_led(dealing) if name != "last"}
    for standing, many in zip(found, often):
        if steps[standing]:
            sums[steps[standing][0][0][0]] += many
    return {name: told_as(sums[name]) for name in sums}


def plain_expected(dealing, prices, chances):
    often, found = plain_visits(dealing, chances, 0), Fraction(0)
    for deed in all_deeds(dealing):
        if deed[0] in often:
            found += Fraction(*often[deed[0]]) * Fraction(*chances[deed]) * prices[deed]
    return told_as(found)


class Chances(unittest.TestCase):
    def check(self, dealing, prices, chances):
        """checks both ways to reckon against each other, and that all are FRACTIONS; returns what is expected"""
        often = told(self, visits, dealing, chances)
        self.assertEqual(list(often), [name for name in plain_led(dealing) if name != "last"])
        found = told(self, expected_sum, dealing, prices, chances)
        self.assertEqual(told(self, expected_by_rules, dealing, prices, chances), found)
        self.assertTrue(all(is_fraction(part) for part in list(often.values()) + [found]))
        return found

    def test_talk(self):
        self.assertEqual(told(self, visits, TALK, HALVES), {"first": (1, 1), "talk": (3, 4)})
        self.assertEqual(self.check(TALK, PRICES, HALVES), (4, 1))
        self.assertEqual(told(self, chance_of, HALVES, ()), (1, 1))
        deeds = (("first", "ask"), ("talk", "again"), ("talk", "again"), ("talk", "yes"))
        self.assertEqual(told(self, chance_of, HALVES, deeds), (1, 27))
        self.assertEqual(told(self, chance_of, HALVES, deeds[:1] + deeds[3:]), (1, 3))

    def test_chance_of_great_ones(self):
        self.assertEqual(told(self, chance_of, {("x", "k"): (2, 3)}, (("x", "k"),) * 400), (2 ** 400, 3 ** 400))

    def test_without_choices(self):
        for dealing in (PLAIN, ALONE):
            self.assertEqual(told(self, visits, dealing, {("first", "go"): (1, 1)}), {"first": (1, 1)})
            for price in (-5, 0, 7):
                self.assertEqual(self.check(dealing, {("first", "go"): price}, {("first", "go"): (1, 1)}), (price, 1))

    def test_parts_of_a_price(self):
        chances = {("first", "go"): (1, 1), ("left", "on"): (1, 7), ("left", "over"): (6, 7), ("right", "on"): (1, 1)}
        self.assertEqual(told(self, visits, BOTH, chances), {"first": (1, 1), "left": (7, 1), "right": (1, 1)})
        prices = {("first", "go"): 0, ("left", "on"): 1, ("left", "over"): -1, ("right", "on"): 0}
        self.assertEqual(self.check(BOTH, prices, chances), (-5, 1))
        chances = {("first", "ask"): (2, 7), ("first", "leave"): (5, 7), ("loan", "grant"): (1, 1), ("deal", "cash"): (1, 3)}
        chances[("deal", "off")] = (2, 3)
        self.assertEqual(told(self, visits, SALE, chances), {"deal": (2, 7), "first": (1, 1), "loan": (2, 7)})
        prices = {deed: 0 for deed in chances}
        self.assertEqual(self.check(SALE, {**prices, ("deal", "off"): -21}, chances), (-4, 1))
        self.assertEqual(self.check(SALE, {**prices, ("deal", "cash"): 1}, chances), (2, 21))

    def test_first_may_come_again(self):
        dealing = read_dealing(
            "parties a b\nround first a a b\nresult again a first b first\nresult go a x b x\nround last a a b\n"
            "round x b a b\nresult back a first b first\nresult out a last b last"
        )
        chances = {("first", "again"): (1, 2), ("first", "go"): (1, 2), ("x", "back"): (3, 4), ("x", "out"): (1, 4)}
        self.assertEqual(told(self, visits, dealing, chances), {"first": (8, 1), "x": (4, 1)})
        self.assertEqual(self.check(dealing, {deed: 1 for deed in chances}, chances), (12, 1))

    def test_rounds_that_are_not_led_do_not_count(self):
        idle = with_round(TALK, ("idle", "b", "b", [("on", [("b", "idle")]), ("out", [("b", "talk")])]))
        chances = {**HALVES, ("idle", "on"): (1, 9), ("idle", "out"): (8, 9)}
        self.assertEqual(told(self, visits, idle, chances), {"first": (1, 1), "talk": (3, 4)})
        prices = {**PRICES, ("idle", "on"): 99, ("idle", "out"): -99}
        self.assertEqual(self.check(idle, prices, chances), (4, 1))

    def test_against_a_plain_search(self):
        many = 0
        for seed, dealing in enumerate([BOTH, SALE, TALK, nested_loops(3)] + many_dealings(300)):
            if plain_is_sound(dealing):
                many += len(dealing[1]) > 3
                chances = some_chances(dealing, seed, (2, 9, 10 ** 6)[seed % 3])
                wanted = plain_visits(dealing, chances, 0)
                # Whichever OPEN round is done next, and whichever party counts, it is the same.
                self.assertEqual(plain_visits(dealing, chances, -1), wanted)
                self.assertEqual(told(self, visits, dealing, chances), wanted)
                dice = Dice(seed)
                prices = {deed: dice.below(19) - 9 for deed in chances}
                self.assertEqual(self.check(dealing, prices, chances), plain_expected(dealing, prices, chances))
        self.assertGreater(many, 80)

    def test_each_party_counts_the_same(self):
        # Each is counted by the least party that it wants: with the names of the parties turned it is another one.
        for seed in range(0, 60):
            dealing = great_dealing(3)
            chances = some_chances(dealing, seed, 5)
            turned = self.turned(dealing)
            self.assertEqual(visits(dealing, chances), visits(turned, chances))

    def turned(self, dealing):
        names = {party: "hgfedcba"[at] for at, party in enumerate(dealing[0])}
        rounds = []
        for name, lot, chooser, results in dealing[1]:
            new = [(word, tuple(sorted((names[party], there) for party, there in nexts))) for word, nexts in results]
            rounds.append((name, tuple(sorted(names[party] for party in lot)), names[chooser], tuple(new)))
        return (tuple(sorted(names.values())), tuple(rounds))

    def test_great_ones(self):
        for seed in range(16):
            dealing = great_dealing(seed)
            dice = Dice(seed)
            chances = some_chances(dealing, seed, (3, 10 ** 15)[seed % 2])
            self.assertIs(told(self, are_chances, dealing, chances), True)
            prices = {deed: dice.below(2 * 10 ** 15) - 10 ** 15 for deed in chances}
            self.check(dealing, prices, chances)

    def test_the_order_of_the_keys_does_not_matter(self):
        turned = {deed: HALVES[deed] for deed in reversed(list(HALVES))}
        prices = {deed: PRICES[deed] for deed in reversed(list(PRICES))}
        self.assertIs(told(self, are_chances, TALK, turned), True)
        self.assertEqual(list(told(self, visits, TALK, turned).items()), [("first", (1, 1)), ("talk", (3, 4))])
        self.assertEqual(self.check(TALK, prices, turned), (4, 1))

    def test_too_many_results(self):
        for many in (400, 401):
            dealing = wide(many)
            chances = {deed: (1, many) for deed in all_deeds(dealing)}
            prices = {deed: index for index, deed in enumerate(all_deeds(dealing))}
            self.assertEqual(told(self, expected_sum, dealing, prices, chances), told_as(Fraction(many - 1, 2)))
            if many == 400:
                self.assertEqual(told(self, expected_by_rules, dealing, prices, chances), (399, 2))
            else:
                self.assertEqual(raised(self, TooMany, expected_by_rules, dealing, prices, chances), {"most": 400})

    def test_more_than_2000_standings_do_no_harm(self):
        dealing = chains([2, 2, 2, 2, 2, 2, 3, 3], [(0,) * 8])
        chances = {deed: (1, 1) for deed in all_deeds(dealing)}
        self.assertEqual(self.check(dealing, {deed: 1 for deed in chances}, chances), (19, 1))
        self.assertEqual(set(visits(dealing, chances).values()), {(1, 1)})


class AreChances(unittest.TestCase):
    def test_right_ones(self):
        self.assertIs(told(self, are_chances, TALK, HALVES), True)
        for dealing in (PLAIN, ALONE):
            self.assertIs(told(self, are_chances, dealing, {("first", "go"): (1, 1)}), True)
        for seed, dealing in enumerate(many_dealings(60)):
            if plain_is_sound(dealing):
                self.assertIs(told(self, are_chances, dealing, some_chances(dealing, seed, 99)), True)

    def test_sums_that_are_not_1(self):
        for fraction in ((1, 3), (2, 3), (1, 1), (3, 2), (499999, 1000000)):
            self.assertIs(told(self, are_chances, TALK, {**HALVES, ("first", "go"): fraction}), False)
        # Both rounds together add up to 2, but neither to 1.
        odd = {("first", "ask"): (1, 2), ("first", "go"): (1, 3), ("talk", "again"): (1, 2), ("talk", "yes"): (2, 3)}
        self.assertIs(told(self, are_chances, TALK, odd), False)

    def test_chances_not_above_0(self):
        for one, other in (((0, 1), (1, 1)), ((-1, 2), (3, 2)), ((2, 1), (-1, 1))):
            thing = {**HALVES, ("first", "ask"): one, ("first", "go"): other}
            self.assertIs(told(self, are_chances, TALK, thing), False)

    def test_no_fractions(self):
        wrong = ((2, 4), [1, 2], (1, 2, 1), (True, 2), 1, "1", None, (1, -2), (-1, -2), (1,), {1: 2}, (1, 0), ("1", "2"))
        for part in wrong:
            for deed in HALVES:
                self.assertIs(told(self, are_chances, TALK, {**HALVES, deed: part}), False)
        self.assertIs(told(self, are_chances, PLAIN, {("first", "go"): (True, 1)}), False)
        self.assertIs(told(self, are_chances, PLAIN, {("first", "go"): (1, True)}), False)

    def test_keys_left_out_or_more(self):
        for deed in HALVES:
            less = {key: HALVES[key] for key in HALVES if key != deed}
            self.assertIs(told(self, are_chances, TALK, less), False)
            self.assertIs(told(self, are_chances, TALK, {**less, ("first", "none"): HALVES[deed]}), False)
        for key in (("last", "on"), ("none", "go"), None, True, 0, "first", ("first",), (), ("first", "go", "go")):
            self.assertIs(told(self, are_chances, TALK, {**HALVES, key: (1, 1)}), False)

    def test_rounds_that_are_not_led_have_theirs(self):
        idle = with_round(TALK, ("idle", "b", "b", [("on", [("b", "idle")]), ("out", [("b", "talk")])]))
        self.assertIs(told(self, are_chances, idle, HALVES), False)
        for one, other, wanted in (((1, 9), (8, 9), True), ((1, 9), (7, 9), False), ((0, 1), (1, 1), False)):
            thing = {**HALVES, ("idle", "on"): one, ("idle", "out"): other}
            self.assertIs(told(self, are_chances, idle, thing), wanted)

    def test_any_value(self):
        for thing in OTHER_KINDS + (TALK, list(HALVES.items()), tuple(HALVES.items()), PRICES, list(HALVES), {}):
            self.assertIs(told(self, are_chances, TALK, thing), False, thing)
        for thing in variants((1, 2)):
            wanted = kinds_of(thing) == kinds_of((1, 2))
            self.assertIs(told(self, are_chances, TALK, {**HALVES, ("first", "go"): thing}), wanted, thing)

    def test_the_sums_are_of_all_words(self):
        for dealing in (BOTH, SALE, TALK):
            chances = some_chances(dealing, 1, 9)
            for name, word in plain_nexts(dealing):
                bent = {**chances, (name, word): (chances[(name, word)][0], chances[(name, word)][1] + 1)}
                self.assertIs(told(self, are_chances, dealing, bent), False)
            self.assertEqual(lot_of(dealing, "first"), dealing[0])


if __name__ == "__main__":
    unittest.main()
