"""[17], [18]: RUNS, MET STANDINGS, and ROPES."""

import itertools
import unittest

from partedmeet.dealings import all_deeds, made_dealing
from partedmeet.errors import NoDeed, TooMany
from partedmeet.forms import are_deeds, is_dealing
from partedmeet.runs import (
    are_apart,
    depth_of,
    is_run,
    least_rope,
    met,
    met_runs,
    part_of,
    run,
    same_rope,
    traced,
)
from partedmeet.standings import end_standing, first_standing
from tests.helper import (
    ALONE,
    BOTH,
    CROSS,
    OTHER_KINDS,
    SALE,
    Dice,
    many_dealings,
    plain_deeds,
    plain_lots,
    plain_met,
    raised,
    told,
    variants,
)
from tests.plain import JUST_2000, OVER_2000, chains

DEEDS = (("first", "go"), ("right", "on"), ("left", "over"), ("left", "on"))
LOOP = made_dealing(
    ["a", "b"],
    [
        ("first", ["a", "b"], "a", [("again", [("a", "first"), ("b", "first")]), ("go", [("a", "last"), ("b", "last")])]),
        ("last", ["a", "b"], "a", []),
    ],
)


def plain_traced(dealing, standing, deeds):
    """the STANDINGS on the way, up to where a DEED can't be done"""
    found = [standing]
    for deed in deeds:
        behind = dict(plain_deeds(dealing, found[-1])).get(deed)
        if behind is None:
            return found
        found.append(behind)
    return found


def plain_ropes(dealing, deeds):
    """all tuples that come of one by exchanging neighbours that are apart"""
    lots = plain_lots(dealing)
    found = [deeds]
    for row in found:
        for at in range(len(row) - 1):
            if not set(lots[row[at][0]]) & set(lots[row[at + 1][0]]):
                other = row[:at] + (row[at + 1], row[at]) + row[at + 2:]
                if other not in found:
                    found.append(other)
    return found


def plain_depth(dealing, ropes):
    """the least number of steps: each tuple of the ROPE cut into steps of DEEDS that are apart, two by two"""
    lots = plain_lots(dealing)
    best = []
    for row in ropes:
        step, many = [], 0
        for deed in row:
            if not step or set(step) & set(lots[deed[0]]):
                step, many = [], many + 1
            step += lots[deed[0]]
        best.append(many)
    return min(best)


class Runs(unittest.TestCase):
    def test_both(self):
        start = first_standing(BOTH)
        behind = (("a", "left"), ("b", "left"), ("c", "right"))
        later = (("a", "left"), ("b", "left"), ("c", "last"))
        for deeds in (DEEDS, list(DEEDS)):
            self.assertEqual(told(self, run, BOTH, start, deeds), end_standing(BOTH))
            wanted = [start, behind, later, later, end_standing(BOTH)]
            self.assertEqual(told(self, traced, BOTH, start, deeds), wanted)
        self.assertIs(told(self, is_run, BOTH, start, DEEDS), True)
        self.assertIs(told(self, is_run, BOTH, behind, DEEDS), False)
        self.assertIs(told(self, is_run, BOTH, behind, DEEDS[1:]), True)

    def test_no_deeds(self):
        for dealing in many_dealings(20):
            for standing in plain_met(dealing):
                for deeds in ((), []):
                    self.assertEqual(told(self, run, dealing, standing, deeds), standing)
                    self.assertEqual(told(self, traced, dealing, standing, deeds), [standing])
                self.assertIs(told(self, is_run, dealing, standing, ()), True)
                self.assertIs(told(self, is_run, dealing, standing, []), False)

    def test_the_first_deed_that_cannot_be_done(self):
        start = first_standing(BOTH)
        for wrong in (("first", "go"), ("none", "go"), ("left", "none"), ("last", "go"), ("a", "b")):
            for at in range(1, len(DEEDS) + 1):
                deeds = DEEDS[:at] + (wrong,) + DEEDS[at:] + (wrong,)
                for row in (deeds, list(deeds)):
                    self.assertEqual(raised(self, NoDeed, run, BOTH, start, row), {"index": at})
                    self.assertEqual(raised(self, NoDeed, traced, BOTH, start, row), {"index": at})
                self.assertIs(told(self, is_run, BOTH, start, deeds), False)
        self.assertEqual(raised(self, NoDeed, run, BOTH, start, DEEDS[1:]), {"index": 0})
        self.assertEqual(raised(self, NoDeed, run, CROSS, (("a", "x"), ("b", "y")), (("x", "ok"),)), {"index": 0})

    def test_rows_of_any_deeds(self):
        dice = Dice(17)
        for dealing in many_dealings(60):
            deeds = list(all_deeds(dealing)) + [("none", "k"), ("first", "none")]
            for standing in plain_met(dealing)[:6]:
                for _ in range(8):
                    row = []
                    for _ in range(dice.below(6)):
                        ready = [deed for deed, _ in plain_deeds(dealing, plain_traced(dealing, standing, row)[-1])]
                        row.append(dice.pick(ready) if ready and dice.below(5) else dice.pick(deeds))
                    way = plain_traced(dealing, standing, row)
                    self.assertIs(told(self, is_run, dealing, standing, tuple(row)), len(way) == len(row) + 1)
                    self.assertIs(is_run(dealing, standing, row), False)
                    if len(way) == len(row) + 1:
                        self.assertEqual(told(self, traced, dealing, standing, row), way)
                        self.assertEqual(run(dealing, standing, tuple(row)), way[-1])
                    else:
                        self.assertEqual(raised(self, NoDeed, traced, dealing, standing, row), {"index": len(way) - 1})
                        self.assertEqual(raised(self, NoDeed, run, dealing, standing, row), {"index": len(way) - 1})

    def test_values_of_other_kinds_are_no_runs(self):
        start = first_standing(BOTH)
        for thing in OTHER_KINDS:
            self.assertIs(told(self, is_run, BOTH, start, thing), thing == () and isinstance(thing, tuple))
        counts = [0, 0]
        for thing in variants(DEEDS):
            wanted = are_deeds(thing) and len(plain_traced(BOTH, start, thing)) == len(thing) + 1
            counts[wanted] += 1
            self.assertIs(told(self, is_run, BOTH, start, thing), wanted, thing)
        self.assertGreater(min(counts), 3)

    def test_400_deeds(self):
        start = first_standing(LOOP)
        deeds = (("first", "again"),) * 399 + (("first", "go"),)
        self.assertEqual(run(LOOP, start, deeds), end_standing(LOOP))
        self.assertEqual(len(traced(LOOP, start, list(deeds))), 401)
        self.assertIs(is_run(LOOP, start, deeds), True)
        self.assertIs(is_run(LOOP, start, deeds + deeds[:1]), False)
        self.assertEqual(raised(self, NoDeed, run, LOOP, start, deeds + deeds[:1]), {"index": 400})
        self.assertEqual([least_rope(LOOP, deeds) == deeds, depth_of(LOOP, deeds)], [True, 400])


class Met(unittest.TestCase):
    def test_known_ones(self):
        self.assertEqual(told(self, met, ALONE), ((("p", "first"),), (("p", "last"),)))
        self.assertEqual(told(self, met_runs, ALONE), {(("p", "first"),): (), (("p", "last"),): (("first", "go"),)})
        self.assertEqual(len(told(self, met, SALE)), 4)
        self.assertEqual(told(self, met_runs, LOOP)[end_standing(LOOP)], (("first", "go"),))

    def test_against_a_plain_search(self):
        for dealing in many_dealings(150):
            wanted = tuple(sorted(plain_met(dealing)))
            self.assertEqual(told(self, met, dealing), wanted)
            self.assertEqual(tuple(told(self, met_runs, dealing)), wanted)

    def test_fewest_deeds_and_of_these_the_least(self):
        for dealing in many_dealings(150):
            rows = [((), first_standing(dealing))]
            least = {rows[0][1]: ()}
            deepest = 0
            while rows and len(rows) < 300 and deepest < 9:
                rows = [(row + (deed,), behind) for row, at in rows for deed, behind in plain_deeds(dealing, at)]
                deepest += 1
                for row, behind in sorted(rows):
                    least.setdefault(behind, row)
            found = met_runs(dealing)
            for standing, row in found.items():
                if rows == [] or len(row) <= deepest:
                    self.assertEqual(row, least[standing])
            self.assertLessEqual(set(least), set(found))

    def test_2000_are_told_and_2001_are_not(self):
        just, over = JUST_2000, OVER_2000
        self.assertTrue(is_dealing(just) and is_dealing(over))
        found = met(just)
        self.assertEqual(len(found), 2000)
        runs = met_runs(just)
        self.assertEqual(tuple(runs), found)
        start = first_standing(just)
        for standing in found[::97]:
            self.assertEqual(run(just, start, runs[standing]), standing)
        self.assertEqual(raised(self, TooMany, met, over), {"most": 2000})
        self.assertEqual(raised(self, TooMany, met_runs, over), {"most": 2000})

    def test_far_too_many(self):
        many = chains([2, 2, 2, 2, 2, 2, 3, 3], [(0,) * 8])
        self.assertEqual(raised(self, TooMany, met, many), {"most": 2000})
        self.assertEqual(raised(self, TooMany, met_runs, many), {"most": 2000})


class Ropes(unittest.TestCase):
    def test_both(self):
        self.assertIs(told(self, are_apart, BOTH, ("left", "on"), ("right", "on")), True)
        self.assertIs(told(self, are_apart, BOTH, ("left", "on"), ("left", "over")), False)
        self.assertIs(told(self, are_apart, BOTH, ("left", "on"), ("left", "on")), False)
        self.assertIs(told(self, are_apart, BOTH, ("right", "on"), ("first", "go")), False)
        self.assertEqual(told(self, part_of, BOTH, DEEDS, "c"), DEEDS[:2])
        self.assertEqual(told(self, least_rope, BOTH, DEEDS), (DEEDS[0], DEEDS[2], DEEDS[3], DEEDS[1]))
        self.assertIs(told(self, same_rope, BOTH, DEEDS, DEEDS[:1] + DEEDS[2:] + DEEDS[1:2]), True)
        self.assertIs(told(self, same_rope, BOTH, DEEDS, DEEDS[:2] + DEEDS[:1:-1]), False)
        self.assertEqual(told(self, depth_of, BOTH, DEEDS), 3)

    def test_no_deeds(self):
        for dealing in many_dealings(10):
            self.assertEqual(told(self, least_rope, dealing, ()), ())
            self.assertEqual(told(self, depth_of, dealing, ()), 0)
            self.assertEqual(told(self, part_of, dealing, (), dealing[0][0]), ())
            self.assertIs(told(self, same_rope, dealing, (), ()), True)
            self.assertIs(told(self, same_rope, dealing, (), all_deeds(dealing)[:1]), False)

    def test_apart(self):
        for dealing in many_dealings(40):
            lots = plain_lots(dealing)
            for one, other in itertools.product(all_deeds(dealing), repeat=2):
                wanted = not set(lots[one[0]]) & set(lots[other[0]])
                self.assertIs(are_apart(dealing, one, other), wanted)

    def test_against_a_plain_search(self):
        dice = Dice(18)
        longest = 0
        for dealing in [chains([1, 2, 1, 1], [(0, 0, 0, 0)])] * 9 + many_dealings(150):
            deeds = all_deeds(dealing)
            for _ in range(4):
                row = tuple(dice.pick(deeds) for _ in range(dice.below(7)))
                ropes = plain_ropes(dealing, row)
                longest = max(longest, len(ropes))
                self.assertEqual(told(self, least_rope, dealing, row), min(ropes))
                self.assertEqual(told(self, depth_of, dealing, row), plain_depth(dealing, ropes) if row else 0)
                for party in dealing[0]:
                    wanted = tuple(deed for deed in row if party in plain_lots(dealing)[deed[0]])
                    self.assertEqual(part_of(dealing, row, party), wanted)
                for other in ropes[:5]:
                    self.assertIs(same_rope(dealing, row, other), True)
                    self.assertEqual(least_rope(dealing, other), min(ropes))
                for other in (tuple(dice.shuffled(row)), row[1:], row + deeds[:1]):
                    self.assertIs(told(self, same_rope, dealing, row, other), other in ropes)
        self.assertGreater(longest, 100)


if __name__ == "__main__":
    unittest.main()
