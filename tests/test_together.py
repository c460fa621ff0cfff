"""[34], and what [9] says of it: SEATS, the TABLE, and what is OPEN together."""

import itertools
import unittest

from partedmeet.dealings import with_round
from partedmeet.dealingtexts import read_dealing
from partedmeet.errors import TooMany
from partedmeet.together import all_together, open_together, open_together_slowly, seat_table, together_run
from tests.helper import ALONE, BOTH, CROSS, LOST, PLAIN, SALE, STUCK, THREE, many_dealings, plain_is_sound, plain_led
from tests.helper import plain_lots, raised, told
from tests.more import IDLE, LOOPS, plain_open, plain_runs, plain_table
from tests.plain import JUST_2000, OVER_2000, chains, great_dealing, nested_loops

# Not SOUND: at s a waits for c, or c for a; but by the TABLE, which sees couples alone, s and x are OPEN with y.
APART = read_dealing(
    "parties a b c\nround first a a b c\nresult k a s b y c v\nresult l a u b y c s\nround s a a c\n"
    "result on a x c last\nround u a a\nresult on a last\nround v c c\nresult on c last\nround x a a\nresult on a last\n"
    "round y b b\nresult on b last\nround last a a b c"
)


def plain_are_seated(dealing, table, one, other):
    lots = plain_lots(dealing)
    if set(lots[one]) & set(lots[other]) or "last" in (one, other):
        return False
    seats = [((party, one), (place, other)) for party in lots[one] for place in lots[other]]
    return all(tuple(sorted(couple)) in table for couple in seats)


class Together(unittest.TestCase):
    def check(self, dealing):
        """checks everything against plain searches, and returns what is OPEN together"""
        table = plain_table(dealing)
        self.assertEqual(told(self, seat_table, dealing), table)
        names, found = plain_led(dealing), told(self, all_together, dealing)
        wanted = [couple for couple in itertools.combinations(names, 2) if plain_are_seated(dealing, table, *couple)]
        self.assertEqual(found, tuple(wanted))
        for one, other in itertools.product(names, names):
            self.assertIs(open_together(dealing, one, other), tuple(sorted((one, other))) in found)
        return found

    def check_slowly(self, dealing):
        """checks what is told by MET STANDINGS, of all rounds, and returns what is OPEN together by them"""
        found, runs = set(), plain_runs(dealing)
        ready = {standing: plain_open(dealing, standing) for standing in runs}
        for one, other in itertools.product(plain_lots(dealing), plain_lots(dealing)):
            deeds = [runs[at] for at in runs if one != other and one in ready[at] and other in ready[at]]
            wanted = min([(len(row), row) for row in deeds], default=(0, None))[1]
            self.assertEqual(together_run(dealing, one, other), wanted)
            self.assertIs(open_together_slowly(dealing, one, other), wanted is not None)
            if wanted is not None:
                found.add(tuple(sorted((one, other))))
        return tuple(sorted(found))

    def test_both(self):
        table = (
            (("a", "last"), ("b", "last")), (("a", "last"), ("c", "last")), (("a", "last"), ("c", "right")),
            (("a", "left"), ("b", "left")), (("a", "left"), ("c", "last")), (("a", "left"), ("c", "right")),
            (("b", "last"), ("c", "last")), (("b", "last"), ("c", "right")), (("b", "left"), ("c", "last")),
            (("b", "left"), ("c", "right")),
        )
        self.assertEqual(told(self, seat_table, BOTH), table)
        self.assertEqual(told(self, all_together, BOTH), (("left", "right"),))
        for one, other in (("left", "right"), ("right", "left")):
            self.assertIs(told(self, open_together, BOTH, one, other), True)
            self.assertIs(told(self, open_together_slowly, BOTH, one, other), True)
            self.assertEqual(told(self, together_run, BOTH, one, other), (("first", "go"),))
        for one, other in (("first", "left"), ("left", "last"), ("last", "right"), ("first", "last")):
            self.assertIs(told(self, open_together, BOTH, one, other), False)
            self.assertIs(told(self, open_together_slowly, BOTH, one, other), False)
            self.assertIsNone(told(self, together_run, BOTH, one, other))

    def test_a_round_with_itself(self):
        for dealing in (BOTH, SALE, PLAIN, ALONE, LOOPS):
            for name in plain_led(dealing):
                self.assertIs(told(self, open_together, dealing, name, name), False)
                self.assertIs(told(self, open_together_slowly, dealing, name, name), False)
                self.assertIsNone(told(self, together_run, dealing, name, name))

    def test_one_party_and_no_rounds(self):
        self.assertEqual(told(self, seat_table, ALONE), ())
        self.assertEqual(told(self, all_together, ALONE), ())
        self.assertIs(told(self, open_together, ALONE, "first", "last"), False)
        self.assertEqual(told(self, seat_table, nested_loops(22)), ())
        self.assertEqual(told(self, seat_table, PLAIN), ((("a", "last"), ("b", "last")),))
        self.assertEqual(told(self, all_together, PLAIN), ())

    def test_first_is_a_seat_only_where_it_comes_again(self):
        self.assertNotIn("first", [name for couple in seat_table(SALE) for _, name in couple])
        again = read_dealing("parties a b\nround first a a b\nresult go a last b last\nresult up a first b first\nround last a a b")
        wanted = ((("a", "first"), ("b", "first")), (("a", "last"), ("b", "last")))
        self.assertEqual(told(self, seat_table, again), wanted)

    def test_rounds_that_are_not_led(self):
        self.assertEqual(told(self, all_together, IDLE), ())
        self.assertEqual(self.check(IDLE), ())
        self.assertEqual([name for couple in seat_table(IDLE) for _, name in couple if name in ("lone", "side")], [])
        self.assertIs(told(self, open_together_slowly, IDLE, "left", "side"), False)
        self.assertIsNone(told(self, together_run, IDLE, "left", "side"))
        # A round that is not LED leads nobody to where it tells.
        idle = with_round(BOTH, ("idle", "abc", "a", [("k", [("a", "left"), ("b", "left"), ("c", "first")])]))
        self.assertEqual(told(self, seat_table, idle), seat_table(BOTH))

    def test_loops_in_loops(self):
        self.assertEqual(self.check(LOOPS), (("out", "side"), ("side", "think"), ("side", "wait")))
        self.assertEqual(self.check_slowly(LOOPS), all_together(LOOPS))

    def test_the_table_sees_couples_alone(self):
        self.assertFalse(plain_is_sound(APART))
        self.assertIs(told(self, open_together, APART, "x", "y"), True)
        self.assertIs(told(self, open_together_slowly, APART, "x", "y"), False)
        self.assertEqual(self.check(APART), (("s", "y"), ("u", "y"), ("v", "y"), ("x", "y")))
        self.assertEqual(self.check_slowly(APART), (("u", "y"), ("v", "y")))

    def test_known_ones_that_are_not_sound(self):
        for dealing in (CROSS, STUCK, LOST, THREE):
            self.check(dealing)
            self.check_slowly(dealing)

    def test_against_plain_searches(self):
        counts = [0, 0]
        for dealing in many_dealings(240):
            found, slowly = self.check(dealing), self.check_slowly(dealing)
            if plain_is_sound(dealing):
                self.assertEqual(found, slowly)
                counts[found != ()] += 1
        self.assertGreater(min(counts), 10)

    def test_the_run_is_the_least_of_the_shortest(self):
        dealing = read_dealing(
            "parties a b\nround first a a b\nresult z a x b y\nresult m a m b y\nround m a a\nresult a a x\n"
            "round x a a\nresult on a last\nround y b b\nresult on b last\nround last a a b"
        )
        self.assertEqual(told(self, together_run, dealing, "x", "y"), (("first", "z"),))
        two = with_round(dealing, ("first", "ab", "a", [(word, [("a", "x"), ("b", "y")]) for word in ("q", "c", "z")]))
        self.assertEqual(told(self, together_run, two, "y", "x"), (("first", "c"),))

    def test_2000_and_more(self):
        # Behind the first DEED two parties wait at rounds of their own.
        self.assertEqual(len(told(self, together_run, JUST_2000, "ax", "bx")), 1)
        self.assertIs(told(self, open_together_slowly, JUST_2000, "ax", "bx"), True)
        self.assertIsNone(told(self, together_run, JUST_2000, "first", "ax"))
        for one, other in (("ax", "bx"), ("first", "ax"), ("ax", "ax"), ("last", "bx")):
            self.assertEqual(raised(self, TooMany, together_run, OVER_2000, one, other), {"most": 2000})
            self.assertEqual(raised(self, TooMany, open_together_slowly, OVER_2000, one, other), {"most": 2000})
        self.assertIs(told(self, open_together, OVER_2000, "ax", "bx"), True)

    def test_great_ones(self):
        for seed in range(16):
            dealing = great_dealing(seed)
            found = told(self, all_together, dealing)
            lots = plain_lots(dealing)
            for one, other in found:
                self.assertLess(one, other)
                self.assertEqual(set(lots[one]) & set(lots[other]), set())
            self.assertEqual(list(found), sorted(set(found)))
        wide = chains([3, 3, 3, 3, 3, 2, 2, 2], [(0,) * 8])
        names = [part[0] for part in wide[1] if part[0] not in ("first", "last")]
        wanted = [couple for couple in itertools.combinations(names, 2) if couple[0][0] != couple[1][0]]
        self.assertEqual(told(self, all_together, wide), tuple(wanted))


if __name__ == "__main__":
    unittest.main()
