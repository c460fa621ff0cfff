"""[39]: RESULTS struck out, and MENDINGS."""

import itertools
import unittest

from partedmeet.dealings import all_deeds, made_dealing, with_result
from partedmeet.dealingtexts import read_dealing
from partedmeet.errors import NoDealing, TooMany
from partedmeet.forms import is_dealing
from partedmeet.mending import is_mending, least_mending, struck
from partedmeet.sound import is_sound
from tests.helper import ALONE, BOTH, CROSS, LOST, PLAIN, SALE, STUCK, THREE, many_dealings, plain_is_sound, plain_led
from tests.helper import plain_nexts, raised, told, variants
from tests.more import IDLE, LOOPS, are_same, is_key
from tests.plain import great_dealing, nested_loops

TORN = with_result(BOTH, "left", "over", {"a": "last", "b": "left"})


def plain_struck(dealing, deeds):
    """the DEALING without the RESULTS, None if some round but `last` has none then"""
    rounds = []
    for name, lot, chooser, results in dealing[1]:
        staying = tuple(result for result in results if (name, result[0]) not in deeds)
        if name != "last" and not staying:
            return None
        rounds.append((name, lot, chooser, staying))
    return (dealing[0], tuple(rounds))


def plain_mends(dealing, deeds):
    left = plain_struck(dealing, deeds)
    return left is not None and plain_is_sound(left)


def plain_rows(dealing):
    """all ascending tuples of DEEDS of LED rounds, the shorter ones first"""
    deeds = sorted(deed for deed in plain_nexts(dealing) if deed[0] in plain_led(dealing))
    return [row for many in range(len(deeds) + 1) for row in itertools.combinations(deeds, many)]


def torn_by(bad):
    """a DEALING of a and b with DEEDS of `first` alone, as many as there are truths: after each one that is bad b waits for ever"""
    words = ["w" + letter for letter in "abcdefghijklmnopqrstuvwxyz"][: len(bad)]
    results = [(word, [("a", "last"), ("b", "first" if is_bad else "last")]) for word, is_bad in zip(words, bad)]
    return made_dealing("ab", [("first", "ab", "a", results), ("last", "ab", "a", [])])


class Struck(unittest.TestCase):
    def test_known_ones(self):
        self.assertEqual(told(self, struck, BOTH, ()), BOTH)
        less = told(self, struck, BOTH, (("left", "over"),))
        self.assertEqual(plain_nexts(less), {deed: plain_nexts(BOTH)[deed] for deed in all_deeds(BOTH) if deed != ("left", "over")})
        self.assertEqual(len(told(self, struck, SALE, (("deal", "cash"), ("first", "ask")))[1]), 4)

    def test_faults(self):
        self.assertEqual(raised(self, NoDealing, struck, STUCK, (("x", "on"),)), {"fault": ("results", "x")})
        self.assertEqual(raised(self, NoDealing, struck, ALONE, (("first", "go"),)), {"fault": ("results", "first")})
        # The least round that has none left; of rounds that are not LED, too.
        self.assertEqual(raised(self, NoDealing, struck, BOTH, all_deeds(BOTH)), {"fault": ("results", "first")})
        self.assertEqual(raised(self, NoDealing, struck, BOTH, all_deeds(BOTH)[1:]), {"fault": ("results", "left")})
        self.assertEqual(raised(self, NoDealing, struck, IDLE, (("lone", "on"), ("side", "on"))), {"fault": ("results", "lone")})

    def test_against_a_plain_one(self):
        for dealing in many_dealings(40):
            for deeds in plain_rows(dealing)[:40]:
                wanted = plain_struck(dealing, deeds)
                if wanted is None:
                    self.assertEqual(raised(self, NoDealing, struck, dealing, deeds)["fault"][0], "results")
                else:
                    self.assertEqual(told(self, struck, dealing, deeds), wanted)
                    self.assertTrue(is_dealing(wanted))


class Mendings(unittest.TestCase):
    def test_known_ones(self):
        self.assertIs(is_sound(TORN), False)
        for thing, wanted in (
            ((("left", "over"),), True), ((("left", "on"),), False), ((), False), ((("first", "go"),), False),
            ((("left", "on"), ("left", "over")), False), ((("left", "none"),), False), ((("last", "on"),), False),
            ((("left", "over"), ("left", "over")), False), ([("left", "over")], False), ((["left", "over"],), False),
            (("left", "over"), False), ((("left", "over", "x"),), False), (None, False), ({("left", "over"): 1}, False),
        ):
            self.assertIs(told(self, is_mending, TORN, thing), wanted, thing)
        self.assertEqual(told(self, least_mending, TORN), (("left", "over"),))
        self.assertIs(told(self, is_mending, BOTH, (("left", "over"),)), True)

    def test_sound_ones_need_none(self):
        for dealing in (BOTH, SALE, PLAIN, ALONE, IDLE, LOOPS, nested_loops(22), great_dealing(7)):
            self.assertEqual(told(self, least_mending, dealing), ())
            self.assertIs(told(self, is_mending, dealing, ()), True)

    def test_some_cannot_be_mended(self):
        for dealing in (STUCK, CROSS, THREE):
            self.assertIsNone(told(self, least_mending, dealing))
            self.assertIs(told(self, is_mending, dealing, ()), False)
        self.assertEqual(told(self, least_mending, LOST), (("first", "fall"),))

    def test_rounds_that_are_not_led(self):
        # Their RESULTS are in no MENDING, whatever they do.
        self.assertIs(told(self, is_mending, IDLE, (("side", "loop"),)), False)
        self.assertIs(told(self, is_mending, IDLE, (("side", "on"),)), False)
        two = with_result(LOST, "lone", "out", {"a": "last", "b": "last"})
        self.assertIs(told(self, is_mending, two, (("first", "fall"), ("lone", "out"))), False)
        # One that is not LED only behind what is struck counts as ahead.
        text = "parties a\nround first a a\nresult go a last\nresult in a x\nround x a a\nresult on a x\nresult out a x\nround last a a"
        dealing = read_dealing(text)
        self.assertEqual(told(self, least_mending, dealing), (("first", "in"),))
        self.assertIs(told(self, is_mending, dealing, (("first", "in"), ("x", "on"))), True)
        self.assertIs(told(self, is_mending, dealing, (("first", "in"), ("x", "on"), ("x", "out"))), False)

    def test_any_values(self):
        two = with_result(TORN, "first", "up", {"a": "last", "b": "left", "c": "last"})
        mending = (("first", "up"), ("left", "over"))
        self.assertEqual(told(self, least_mending, two), mending)
        counts = [0, 0]
        for thing in [mending, (*mending[:1], ("left", "on"), *mending[1:])] + variants(mending):
            rows = [row for row in plain_rows(two) if is_key(thing) and are_same(row, thing)]
            wanted = rows != [] and plain_mends(two, rows[0])
            counts[wanted] += 1
            self.assertIs(told(self, is_mending, two, thing), wanted, thing)
        self.assertGreater(min(counts), 0)

    def test_against_a_plain_search(self):
        counts = {}
        for dealing in many_dealings(160):
            rows = plain_rows(dealing)
            if len(rows) <= 128:
                wanted = [row for row in rows if plain_mends(dealing, row)]
                found = told(self, least_mending, dealing)
                self.assertEqual(found, wanted[0] if wanted else None)
                for row in rows[:20]:
                    self.assertIs(told(self, is_mending, dealing, row), row in wanted)
                counts[found and len(found)] = counts.get(found and len(found), 0) + 1
        self.assertGreater(min(counts[None], counts[()], counts[1], counts[2]), 2)

    def test_4000_and_more(self):
        # Of eleven DEEDS there are 2,048 tuples, of twelve 4,096.
        self.assertIsNone(told(self, least_mending, torn_by([True] * 11)))
        self.assertEqual(raised(self, TooMany, least_mending, torn_by([True] * 12)), {"most": 4000})
        rows = [set(row) for many in range(13) for row in itertools.combinations(range(12), many)]
        for place, is_found in ((3999, True), (4000, False), (3998, True), (4001, False)):
            dealing = torn_by([at in rows[place] for at in range(12)])
            wanted = tuple(deed for at, deed in enumerate(all_deeds(dealing)) if at in rows[place])
            self.assertIs(told(self, is_mending, dealing, wanted), True)
            if is_found:
                self.assertEqual(told(self, least_mending, dealing), wanted)
            else:
                self.assertEqual(raised(self, TooMany, least_mending, dealing), {"most": 4000})

    def test_great_ones(self):
        for seed in range(4):
            dealing = great_dealing(8 * seed + 3)
            name, lot, _, results = [part for part in dealing[1] if len(part[1]) > 1 and part[0] != "last"][1]
            bad = {**dict(results[0][1]), lot[0]: "last", lot[1]: name}
            bent = with_result(dealing, name, "bad", bad)
            self.assertIs(is_sound(bent), False)
            self.assertEqual(told(self, least_mending, bent), ((name, "bad"),))
            self.assertEqual(told(self, struck, bent, ((name, "bad"),)), dealing)


if __name__ == "__main__":
    unittest.main()
