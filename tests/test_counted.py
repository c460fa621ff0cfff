"""[32]: ROPES to the END, counted and listed."""

import unittest

from partedmeet.counted import all_ropes, is_endless, many_ropes
from partedmeet.dealings import made_dealing, with_result, with_round
from partedmeet.dealingtexts import read_dealing
from partedmeet.errors import TooMany
from partedmeet.runs import least_rope
from partedmeet.standings import end_standing, first_standing
from tests.helper import ALONE, BOTH, PLAIN, SALE, many_dealings, plain_deeds, plain_is_sound, plain_led, plain_steps
from tests.helper import raised, spoil, told
from tests.plain import chains, great_dealing, nested_loops, plain_tied
from tests.test_grown import TALK
from tests.test_rulerows import wide

APART = read_dealing(
    "parties p q\nround first p p q\nresult go p x q y\nround last p p q\nround x p p\nresult one p last\n"
    "result two p last\nround y q q\nresult one q last"
)


def plain_ropes(dealing):
    """the set of the least ropes of all RUNS to the END; only where these have an end"""
    rows, found = [((), first_standing(dealing))], set()
    for deeds, standing in rows:
        rows += [(deeds + (deed,), behind) for deed, behind in plain_deeds(dealing, standing)]
        if standing == end_standing(dealing):
            found.add(least_rope(dealing, deeds))
    return sorted(found)


def row_of(many):
    """one party: so many rounds in a row, each with two RESULTS to the next one; and `first`, with one"""
    names = ["first"] + ["r" + "abcdefghijklmnopqrstuv"[at] for at in range(many)] + ["last"]
    rounds = [("last", ["p"], "p", []), ("first", ["p"], "p", [("k", [("p", names[1])])])]
    for name, there in zip(names[1:], names[2:]):
        rounds.append((name, ["p"], "p", [("k", [("p", there)]), ("l", [("p", there)])]))
    return made_dealing(["p"], rounds)


def with_words(dealing, name, many):
    """the DEALING in which the one RESULT of a round comes so many times"""
    part = [part for part in dealing[1] if part[0] == name][0]
    letters = "abcdefghijklmnopqrstuvwxyz"
    words = [one + other for one in letters for other in letters][:many]
    return with_round(dealing, part[:3] + ([(word, part[3][0][1]) for word in words],))


class Counted(unittest.TestCase):
    def test_apart(self):
        wanted = [(("first", "go"), ("x", word), ("y", "one")) for word in ("one", "two")]
        self.assertIs(told(self, is_endless, APART), False)
        self.assertEqual(told(self, many_ropes, APART), 2)
        self.assertEqual(told(self, all_ropes, APART), wanted)

    def test_known_ones(self):
        for dealing in (PLAIN, ALONE):
            self.assertIs(told(self, is_endless, dealing), False)
            self.assertEqual(told(self, many_ropes, dealing), 1)
            self.assertEqual(told(self, all_ropes, dealing), [(("first", "go"),)])
        self.assertEqual(told(self, many_ropes, SALE), 3)
        ask = (("first", "ask"), ("loan", "grant"))
        self.assertEqual(all_ropes(SALE), [ask + (("deal", "cash"),), ask + (("deal", "off"),), (("first", "leave"),)])

    def test_endless_ones(self):
        for dealing in (BOTH, TALK, nested_loops(1), nested_loops(22)):
            wanted = dealing != nested_loops(1)
            self.assertIs(told(self, is_endless, dealing), wanted)
            self.assertEqual(told(self, many_ropes, dealing), None if wanted else 1)
            self.assertEqual(told(self, all_ropes, dealing) is None, wanted)

    def test_loops_of_rounds_that_are_not_led_do_not_count(self):
        idle = with_round(APART, ("idle", "p", "p", [("on", [("p", "idle")]), ("out", [("p", "x")])]))
        self.assertIs(told(self, is_endless, idle), False)
        self.assertEqual(told(self, many_ropes, idle), 2)
        self.assertEqual(told(self, all_ropes, idle), all_ropes(APART))

    def test_against_a_plain_search(self):
        counts = {}
        for dealing in [APART] + many_dealings(500):
            if plain_is_sound(dealing):
                endless = plain_tied(plain_steps(dealing), plain_led(dealing)) != []
                self.assertIs(told(self, is_endless, dealing), endless)
                wanted = None if endless else plain_ropes(dealing)
                self.assertEqual(told(self, all_ropes, dealing), wanted)
                many = told(self, many_ropes, dealing)
                self.assertEqual(many, None if endless else len(wanted))
                self.assertNotIsInstance(many, bool)
                counts[many and min(many, 3)] = counts.get(many and min(many, 3), 0) + 1
        self.assertGreater(min(counts[None], counts[1], counts[2], counts[3]), 3)

    def test_runs_that_are_one_rope_count_once(self):
        # Eight parties with chains of their own: 2 steps each in any order, but just one ROPE.
        dealing = chains([2] * 8, [(0,) * 8])
        self.assertEqual(told(self, many_ropes, dealing), 1)
        self.assertEqual(len(told(self, all_ropes, dealing)[0]), 17)
        self.assertEqual(all_ropes(dealing)[0], least_rope(dealing, all_ropes(dealing)[0]))
        for party in "abcde":
            dealing = with_result(dealing, party + "x", "up", {party: "last"})
        self.assertEqual(told(self, many_ropes, dealing), 32)
        found = told(self, all_ropes, dealing)
        self.assertEqual(found, sorted(set(found)))
        self.assertEqual([least_rope(dealing, rope) for rope in found], found)
        self.assertEqual(len(found), 32)

    def test_2000_and_more(self):
        # 2 to the power of 4, times 5 times 5 times 5.
        just = row_of(7)
        for name in ("ra", "rb", "rc"):
            just = with_words(just, name, 5)
        self.assertEqual(told(self, many_ropes, just), 2000)
        found = told(self, all_ropes, just)
        self.assertEqual(len(found), 2000)
        self.assertEqual(found, sorted(set(found)))
        over = with_result(just, "first", "out", {"p": "last"})
        self.assertEqual(told(self, many_ropes, over), 2001)
        self.assertEqual(raised(self, TooMany, all_ropes, over), {"most": 2000})
        # More STANDINGS than 2,000 do no harm, and far too many ropes are found out soon.
        self.assertEqual(len(told(self, all_ropes, chains([2, 2, 2, 2, 2, 2, 3, 3], [(0,) * 8]))), 1)
        self.assertEqual(told(self, many_ropes, row_of(22)), 2 ** 22)
        self.assertEqual(raised(self, TooMany, all_ropes, row_of(22)), {"most": 2000})

    def test_two_lots_that_end_at_unlike_times(self):
        # 1,999 ropes end with their first DEED, and two more with their second.
        first = with_words(read_dealing("parties p\nround first p p\nresult k p last\nround last p p"), "first", 1)
        letters = "abcdefghijklmnopqrstuvwxyz"
        words = [one + other + last for one in letters for other in letters for last in letters]
        results = [(word, [("p", "last")]) for word in words[:1998]] + [("zzzz", [("p", "x")])]
        two = [("k", [("p", "last")]), ("l", [("p", "last")])]
        just = made_dealing(["p"], [("first", ["p"], "p", results), ("last", ["p"], "p", []), ("x", ["p"], "p", two)])
        self.assertEqual(len(told(self, all_ropes, just)), 2000)
        over = with_round(just, ("x", "p", "p", two + [("m", [("p", "last")])]))
        self.assertEqual(raised(self, TooMany, all_ropes, over), {"most": 2000})
        self.assertEqual(all_ropes(first), [(("first", "aa"),)])

    def test_too_many_results(self):
        self.assertEqual(told(self, many_ropes, wide(400)), 400)
        self.assertEqual(raised(self, TooMany, many_ropes, wide(401)), {"most": 400})
        self.assertEqual(len(told(self, all_ropes, wide(401))), 401)
        self.assertIs(told(self, is_endless, wide(401)), False)

    def test_great_ones(self):
        for seed in range(24):
            dealing = great_dealing(seed)
            many = told(self, many_ropes, dealing)
            self.assertIs(many is None, is_endless(dealing))
            if many is None:
                self.assertIsNone(all_ropes(dealing))
            elif many > 2000:
                self.assertEqual(raised(self, TooMany, all_ropes, dealing), {"most": 2000})
            else:
                self.assertEqual(len(told(self, all_ropes, dealing)), many)

    def test_great_ones_without_loops(self):
        counts = [0, 0]
        for seed in range(16):
            dealing = great_dealing(seed)
            for name, _, _, results in dealing[1]:
                if len(results) > 1 and results[1][0] == "l":
                    # In what is grown here each loop is the RESULT `l`: it gets the nexts of `k`.
                    dealing = with_result(dealing, name, "l", dict(results[0][1]))
            many = told(self, many_ropes, dealing)
            self.assertIs(is_endless(dealing), False)
            counts[many > 2000] += 1
            if many > 2000:
                self.assertEqual(raised(self, TooMany, all_ropes, dealing), {"most": 2000})
            else:
                self.assertEqual(len(told(self, all_ropes, dealing)), many)
        self.assertGreater(min(counts), 0)

    def test_the_list_is_new(self):
        found = all_ropes(APART)
        spoil(found)
        self.assertEqual(len(all_ropes(APART)), 2)


if __name__ == "__main__":
    unittest.main()
