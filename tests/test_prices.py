"""[30]: SUMS of RUNS by PRICES."""

import unittest

from partedmeet.dealings import all_deeds, made_dealing, with_result, with_round
from partedmeet.dealingtexts import read_dealing
from partedmeet.errors import TooMany
from partedmeet.prices import greatest_run, greatest_sum, least_run, least_sum, sum_of, sums_slowly
from partedmeet.runs import is_run, run
from partedmeet.standings import end_standing, first_standing
from tests.helper import ALONE, BOTH, PLAIN, SALE, Dice, many_dealings, plain_deeds, plain_is_sound, raised, told
from tests.plain import JUST_2000, OVER_2000, chains, great_dealing, nested_loops
from tests.test_grown import TALK
from tests.test_rulerows import wide


def some_prices(dealing, seed, least, most):
    dice = Dice(seed)
    return {deed: least + dice.below(most - least + 1) for deed in all_deeds(dealing)}


def plain_least(dealing, prices):
    """the least SUM of a RUN to the END, by going over all steps as often as there are STANDINGS, and once more"""
    start, end = first_standing(dealing), end_standing(dealing)
    found, steps = [start], {}
    for standing in found:
        steps[standing] = plain_deeds(dealing, standing)
        found += [behind for behind in dict.fromkeys(behind for _, behind in steps[standing]) if behind not in found]
    sums = {start: 0}
    for _ in range(len(found) + 1):
        before = dict(sums)
        for standing in sums.copy():
            for deed, behind in steps[standing]:
                sums[behind] = min(sums.get(behind, before[standing] + prices[deed]), before[standing] + prices[deed])
    return sums[end] if sums == before else None


def negated(prices):
    return {deed: -price for deed, price in prices.items()}


class Prices(unittest.TestCase):
    def check(self, dealing, prices):
        """checks all against each other, and returns (least, greatest)"""
        least, greatest = told(self, least_sum, dealing, prices), told(self, greatest_sum, dealing, prices)
        for wanted, teller in ((least, least_run), (greatest, greatest_run)):
            deeds = told(self, teller, dealing, prices)
            if wanted is None:
                self.assertIsNone(deeds)
            else:
                start = first_standing(dealing)
                self.assertIs(is_run(dealing, start, deeds), True)
                self.assertEqual(run(dealing, start, deeds), end_standing(dealing))
                self.assertEqual(sum(prices[deed] for deed in deeds), wanted)
        return least, greatest

    def test_sum_of(self):
        prices = {("first", "ask"): 1, ("first", "go"): 5, ("talk", "again"): -2, ("talk", "yes"): 10 ** 15}
        self.assertEqual(told(self, sum_of, prices, ()), 0)
        self.assertEqual(told(self, sum_of, prices, (("first", "go"),)), 5)
        deeds = (("first", "ask"), ("talk", "again"), ("talk", "again"), ("talk", "yes"))
        self.assertEqual(told(self, sum_of, prices, deeds), 10 ** 15 - 3)

    def test_talk(self):
        prices = {("first", "ask"): 1, ("first", "go"): 5, ("talk", "again"): 2, ("talk", "yes"): 1}
        for again, wanted in ((2, (2, None)), (-1, (None, 5)), (0, (2, 5))):
            prices[("talk", "again")] = again
            self.assertEqual(self.check(TALK, prices), wanted)
            self.assertEqual(told(self, sums_slowly, TALK, prices), wanted)

    def test_without_loops(self):
        prices = {("first", "ask"): -7, ("first", "leave"): 0, ("loan", "grant"): 3, ("deal", "cash"): 2, ("deal", "off"): 5}
        self.assertEqual(self.check(SALE, prices), (-2, 1))
        self.assertEqual(told(self, sums_slowly, SALE, prices), (-2, 1))
        self.assertEqual(told(self, least_run, SALE, prices)[0], ("first", "ask"))
        self.assertEqual(greatest_run(SALE, prices)[-1], ("deal", "off"))
        for dealing, deed in ((PLAIN, ("first", "go")), (ALONE, ("first", "go"))):
            for price in (-3, 0, 999999999999999):
                self.assertEqual(self.check(dealing, {deed: price}), (price, price))
                self.assertEqual(told(self, sums_slowly, dealing, {deed: price}), (price, price))

    def test_loops_in_loops(self):
        # Only the innermost loop is dear, or cheap; the one around it costs nothing.
        dealing = nested_loops(3)
        free = {deed: 0 for deed in all_deeds(dealing)}
        self.assertEqual(self.check(dealing, free), (0, 0))
        for price, wanted in ((1, (0, None)), (-1, (None, 0))):
            for deed in (("rb", "back"), ("rc", "back")):
                self.assertEqual(self.check(dealing, {**free, deed: price}), wanted)
                self.assertEqual(sums_slowly(dealing, {**free, deed: price}), wanted)
        # Back and on together cost 0: so there is a least one.
        even = {**free, ("rb", "back"): -4, ("ra", "on"): 4}
        self.assertEqual(self.check(dealing, even), (4, 4))
        self.assertEqual(self.check(dealing, {**even, ("rb", "back"): -5}), (None, 4))
        self.assertEqual(self.check(dealing, {**even, ("rb", "back"): -3}), (4, None))

    def test_rounds_that_are_not_led_do_not_count(self):
        idle = with_round(TALK, ("idle", "b", "b", [("on", [("b", "idle")]), ("out", [("b", "last")])]))
        prices = {("first", "ask"): 1, ("first", "go"): 5, ("talk", "again"): 0, ("talk", "yes"): 1}
        prices.update({("idle", "on"): -9, ("idle", "out"): -9})
        self.assertEqual(self.check(idle, prices), (2, 5))
        self.assertEqual(told(self, sums_slowly, idle, prices), (2, 5))

    def test_the_order_of_the_prices_does_not_matter(self):
        prices = some_prices(BOTH, 3, 0, 9)
        turned = {deed: prices[deed] for deed in reversed(list(prices))}
        for teller in (least_sum, greatest_sum, least_run, greatest_run, sums_slowly):
            self.assertEqual(told(self, teller, BOTH, prices), told(self, teller, BOTH, turned))

    def test_against_a_plain_search(self):
        counts = {}
        for seed, dealing in enumerate([BOTH, SALE, TALK] + many_dealings(400)):
            if plain_is_sound(dealing):
                least, most = ((-3, 3), (0, 5), (-1, 9), (-5, 0))[seed % 4]
                prices = some_prices(dealing, seed, least, most)
                wanted = (plain_least(dealing, prices), plain_least(dealing, negated(prices)))
                wanted = (wanted[0], None if wanted[1] is None else -wanted[1])
                self.assertEqual(self.check(dealing, prices), wanted)
                self.assertEqual(told(self, sums_slowly, dealing, prices), wanted)
                key = (wanted[0] is None, wanted[1] is None)
                counts[key] = counts.get(key, 0) + 1
        self.assertEqual(len(counts), 4)
        self.assertGreater(min(counts.values()), 5)

    def test_great_ones(self):
        counts = [0, 0]
        for seed in range(24):
            dealing = great_dealing(seed)
            prices = some_prices(dealing, seed, (0, -1)[seed % 2], 10 ** 15)
            found = self.check(dealing, prices)
            counts[found[0] is None] += 1
            try:
                self.assertEqual(sums_slowly(dealing, prices), found)
            except TooMany:
                counts.append(seed)
        self.assertGreater(counts[0], 10)

    def test_up_to_2000(self):
        prices = some_prices(JUST_2000, 30, -9, 9)
        self.assertEqual(told(self, sums_slowly, JUST_2000, prices), self.check(JUST_2000, prices))
        more = some_prices(OVER_2000, 30, -9, 9)
        self.assertEqual(raised(self, TooMany, sums_slowly, OVER_2000, more), {"most": 2000})
        self.check(OVER_2000, more)

    def test_slowly_with_many_loops(self):
        # About a thousand STANDINGS, from each of which loops lead.
        dealing = chains([3, 3, 3, 3, 3], [(0,) * 5])
        for party in "abcde":
            for name in (party + "x", party + "y", party + "z"):
                dealing = with_result(dealing, name, "up", {party: party + "x"})
        prices = {deed: 2 for deed in all_deeds(dealing)}
        self.assertEqual(self.check(dealing, prices), (32, None))
        self.assertEqual(sums_slowly(dealing, prices), (32, None))
        prices[("cz", "up")] = -7
        self.assertEqual(self.check(dealing, prices), (None, None))
        self.assertEqual(sums_slowly(dealing, prices), (None, None))

    def test_too_many_results(self):
        for many in (400, 401):
            dealing = wide(many)
            prices = {deed: index for index, deed in enumerate(all_deeds(dealing))}
            if many == 400:
                self.assertEqual(self.check(dealing, prices), (0, 399))
            else:
                for teller in (least_sum, greatest_sum, least_run, greatest_run):
                    self.assertEqual(raised(self, TooMany, teller, dealing, prices), {"most": 400})
                self.assertEqual(told(self, sums_slowly, dealing, prices), (0, 400))

    def test_too_many_results_where_there_is_no_least_sum(self):
        dealing = with_result(wide(400), "first", "zz", {"p": "first"})
        prices = {deed: -1 for deed in all_deeds(dealing)}
        for teller in (least_sum, greatest_sum, least_run, greatest_run):
            self.assertEqual(raised(self, TooMany, teller, dealing, prices), {"most": 400})

    def test_parties_that_go_on_their_own(self):
        text = "parties a b\nround first a a b\nresult go a x b y\nround x a a\nresult k a last\nresult l a x\n"
        dealing = read_dealing(text + "round y b b\nresult k b last\nresult m b last\nround last a a b")
        prices = {("first", "go"): 100, ("x", "k"): 10, ("x", "l"): 0, ("y", "k"): 1, ("y", "m"): 2}
        self.assertEqual(self.check(dealing, prices), (111, 112))
        prices[("x", "l")] = 3
        self.assertEqual(self.check(dealing, prices), (111, None))
        self.assertEqual(told(self, sums_slowly, dealing, prices), (111, None))

    def test_a_loop_of_several_parties(self):
        # The loop is: together at `m`, then each on its own way back to it.
        dealing = made_dealing(
            ["a", "b"],
            [
                ("first", ["a", "b"], "a", [("go", [("a", "m"), ("b", "m")])]),
                ("last", ["a", "b"], "a", []),
                ("m", ["a", "b"], "b", [("on", [("a", "x"), ("b", "y")]), ("out", [("a", "last"), ("b", "last")])]),
                ("x", ["a"], "a", [("k", [("a", "m")]), ("l", [("a", "m")])]),
                ("y", ["b"], "b", [("k", [("b", "m")])]),
            ],
        )
        prices = {("first", "go"): 0, ("m", "on"): 5, ("m", "out"): 1, ("x", "k"): -3, ("x", "l"): -4, ("y", "k"): -2}
        self.assertEqual(self.check(dealing, prices), (None, 1))
        self.assertEqual(sums_slowly(dealing, prices), (None, 1))
        prices[("y", "k")] = -1
        self.assertEqual(self.check(dealing, prices), (1, None))
        prices[("x", "k")] = -4
        self.assertEqual(self.check(dealing, prices), (1, 1))


if __name__ == "__main__":
    unittest.main()
