"""[37]: TRACES, LIKENESSES and PARTINGS."""

import itertools
import unittest

from partedmeet.dealings import made_dealing, with_result
from partedmeet.errors import TooMany
from partedmeet.leastforms import are_alike, least_form
from partedmeet.parting import is_likeness, is_parting, is_trace, likeness, parting, trace_of
from tests.helper import ALONE, BOTH, OTHER_KINDS, PLAIN, many_dealings, plain_is_sound, plain_lots, plain_nexts
from tests.helper import raised, told, variants
from tests.more import LOOPS, are_same, as_dice, faced, fan, is_key, plain_are_traced, plain_parting, plain_run, row_of, some_run, swapped
from tests.plain import JUST_2000, OVER_2000, great_dealing
from tests.test_leastforms import GO, LONG, LOT, SHORT, TO

ONCE = (LOT, (GO, ("last", LOT, "p", ()), ("x", LOT, "q", (("no", TO["last"]), ("yes", TO["last"])))))
AGAIN = (("first", "go"), ("x", "no"), ("y", "no"), ("x", "yes"))


def plain_trace(dealing, deeds):
    told_of = {part[0]: part[1:3] for part in dealing[1]}
    return tuple(told_of[name] + (word,) for name, word in deeds)


def plain_is_likeness(one, other, thing):
    """by the words of [37], of any value"""
    is_form = isinstance(thing, tuple) and all(isinstance(pair, tuple) and len(pair) == 2 for pair in thing)
    if not is_form or not all(isinstance(name, str) for pair in thing for name in pair):
        return False
    told_of = [{part[0]: part[1:3] + ([word for word, _ in part[3]],) for part in dealing[1]} for dealing in (one, other)]
    if list(thing) != sorted(set(thing)) or ("first", "first") not in thing:
        return False
    for here, there in thing:
        if here not in told_of[0] or there not in told_of[1] or told_of[0][here] != told_of[1][there]:
            return False
        for word in told_of[0][here][2]:
            places, facing = plain_nexts(one)[(here, word)], plain_nexts(other)[(there, word)]
            if not all((places[party], facing[party]) in thing for party in places):
                return False
    return True


def plain_is_parting(one, other, thing):
    """by the words of [37], of a tuple (index, deeds) of the right kinds"""
    dealing, facing = ((one, other), (other, one))[thing[0]]
    return plain_run(dealing, thing[1]) is not None and not plain_are_traced(facing, plain_trace(dealing, thing[1]))


def cases(many):
    """SOUND DEALINGS, and others with the same parties and chooser of `last`, some with the same TRACES"""
    found = [(LONG, SHORT), (LONG, ONCE), (SHORT, ONCE), (BOTH, BOTH), (LOOPS, LOOPS), (ALONE, ALONE)]
    for seed, dealing in enumerate(many_dealings(many)):
        other = faced(dealing, as_dice(seed), seed // 2) if plain_is_sound(dealing) else None
        if other is not None:
            # Half of them have other names for their rounds than the one that they face.
            found.append((dealing, swapped(other, as_dice(seed)) if seed % 2 else other))
    return found


class Traces(unittest.TestCase):
    def test_known_ones(self):
        self.assertEqual(told(self, trace_of, LONG, ()), ())
        wanted = ((LOT, "p", "go"), (LOT, "q", "no"), (LOT, "q", "no"), (LOT, "q", "yes"))
        self.assertEqual(told(self, trace_of, LONG, AGAIN), wanted)
        for dealing in (LONG, SHORT):
            for many in range(5):
                self.assertIs(told(self, is_trace, dealing, wanted[:many]), True)
            self.assertIs(told(self, is_trace, dealing, wanted + wanted[-1:]), False)
        self.assertIs(told(self, is_trace, ONCE, wanted[:2]), True)
        self.assertIs(told(self, is_trace, ONCE, wanted[:3]), False)
        self.assertIs(told(self, is_trace, LONG, ((LOT, "q", "go"),)), False)
        self.assertIs(told(self, is_trace, LONG, ((LOT[:1], "p", "go"),)), False)
        self.assertIs(told(self, is_trace, ALONE, ((("p",), "p", "go"),)), True)

    def test_any_values(self):
        trace = (LOT, "p", "go"), (LOT, "q", "no"), (LOT, "q", "yes")
        counts = [0, 0]
        for thing in list(variants(trace)) + list(variants(())):
            # Of what is made out of it here, only its beginnings and what has `no` more often are TRACES.
            wanted = thing == () or are_same(thing, trace)
            if isinstance(thing, tuple) and thing and not wanted:
                inner = [part for part in thing[1:-1]]
                is_right = are_same(thing[0], trace[0]) and all(are_same(part, trace[1]) for part in inner)
                wanted = is_right and (len(thing) == 1 or are_same(thing[-1], trace[1]) or are_same(thing[-1], trace[2]))
            counts[wanted] += 1
            self.assertIs(told(self, is_trace, LONG, thing), wanted, thing)
        self.assertGreater(min(counts), 3)

    def test_against_a_plain_search(self):
        counts = [0, 0]
        for seed, (one, other) in enumerate(cases(200)):
            for _ in range(4):
                deeds = some_run(one, as_dice(seed), 6)
                trace = told(self, trace_of, one, deeds)
                self.assertEqual(trace, plain_trace(one, deeds))
                self.assertIs(told(self, is_trace, one, trace), True)
                wanted = plain_are_traced(other, trace)
                counts[wanted] += 1
                self.assertIs(told(self, is_trace, other, trace), wanted)
        self.assertGreater(min(counts), 20)

    def test_400_deeds_and_more(self):
        for many in (400, 500):
            deeds = (("first", "go"),) + (("x", "no"), ("y", "no")) * (many // 2)
            trace = told(self, trace_of, LONG, deeds)
            self.assertIs(told(self, is_trace, SHORT, trace), True)
            self.assertIs(told(self, is_trace, ONCE, trace), False)
            self.assertIs(told(self, is_parting, LONG, ONCE, (0, deeds)), True)


class Likeness(unittest.TestCase):
    def test_known_ones(self):
        wanted = (("first", "first"), ("last", "last"), ("x", "a"), ("y", "a"))
        self.assertEqual(told(self, likeness, LONG, SHORT), wanted)
        self.assertEqual(told(self, likeness, SHORT, LONG), tuple(sorted((there, here) for here, there in wanted)))
        self.assertIsNone(told(self, likeness, LONG, ONCE))
        self.assertEqual(told(self, likeness, ALONE, ALONE), (("first", "first"), ("last", "last")))
        self.assertIs(told(self, is_likeness, LONG, SHORT, wanted), True)
        self.assertIs(told(self, is_likeness, LONG, LONG, wanted), False)
        for at in range(4):
            self.assertIs(told(self, is_likeness, LONG, SHORT, wanted[:at] + wanted[at + 1:]), False)

    def test_there_are_greater_ones(self):
        less = (("first", "first"), ("last", "last"), ("x", "x"), ("y", "y"))
        self.assertEqual(told(self, likeness, LONG, LONG), less)
        for more in ((("x", "y"), ("y", "x")), (("x", "y"),), (("y", "x"),)):
            wanted = len(more) == 2
            self.assertIs(told(self, is_likeness, LONG, LONG, tuple(sorted(less + more))), wanted)
        # Rounds that are not LED may be in it.
        one = made_dealing("a", [("first", "a", "a", [("k", [("a", "last")])]), ("last", "a", "a", []), ("n", "a", "a", [("k", [("a", "last")])])])
        self.assertEqual(told(self, likeness, one, one), less[:2])
        for more, wanted in (((("n", "n"),), True), ((("first", "n"),), True), ((("n", "last"),), False)):
            self.assertIs(told(self, is_likeness, one, one, tuple(sorted(less[:2] + more))), wanted)

    def test_any_values(self):
        counts = [0, 0]
        for one, other in ((LONG, SHORT), (LONG, LONG), (ALONE, ALONE)):
            for thing in variants(likeness(one, other)):
                wanted = plain_is_likeness(one, other, thing)
                counts[wanted] += 1
                self.assertIs(told(self, is_likeness, one, other, thing), wanted, thing)
        for thing in OTHER_KINDS:
            self.assertIs(told(self, is_likeness, LONG, SHORT, thing), False)
        self.assertGreaterEqual(counts[0], 100)

    def test_against_a_plain_search(self):
        counts = [0, 0]
        for one, other in cases(160):
            found = told(self, likeness, one, other)
            counts[found is not None] += 1
            self.assertIs(found is not None, plain_parting(one, other)[0] is None)
            if found is not None:
                self.assertTrue(plain_is_likeness(one, other, found))
                self.assertIs(told(self, is_likeness, one, other, found), True)
                self.check_is_least(one, other, found)
        self.assertGreater(min(counts), 10)

    def check_is_least(self, one, other, found):
        """no LIKENESS has fewer couples: each couple but the first one is asked for by another one of it"""
        couples = {("first", "first")}
        for here, there in sorted(found) * len(found):
            if (here, there) in couples:
                for (name, word), places in plain_nexts(one).items():
                    if name == here:
                        facing = plain_nexts(other)[(there, word)]
                        couples |= {(places[party], facing[party]) for party in places}
        self.assertEqual(tuple(sorted(couples)), found)

    def test_small_ones_whole(self):
        # All sets of couples there are, of two rounds beside the ends.
        names = ("first", "last", "x", "y")
        couples = list(itertools.product(names, names))
        inner = [couple for couple in couples if couple[0] in "xy" and couple[1] in "xy"]
        for many in range(len(inner) + 1):
            for row in itertools.combinations(inner, many):
                thing = tuple(sorted((("first", "first"), ("last", "last")) + row))
                self.assertIs(told(self, is_likeness, LONG, LONG, thing), plain_is_likeness(LONG, LONG, thing))


class Parting(unittest.TestCase):
    def test_known_ones(self):
        self.assertIsNone(told(self, parting, LONG, SHORT))
        found = told(self, parting, LONG, ONCE)
        self.assertEqual((found[0], found[1][:2], len(found[1])), (0, (("first", "go"), ("x", "no")), 3))
        found = told(self, parting, ONCE, LONG)
        self.assertEqual((found[0], len(found[1])), (1, 3))
        self.assertIsNone(told(self, parting, ALONE, ALONE))
        self.assertIn(told(self, parting, PLAIN, with_result(PLAIN, "first", "x", {"a": "last", "b": "last"})), ((1, (("first", "x"),)),))

    def test_the_run_is_told_by_the_names_of_its_own_dealing(self):
        one = with_result(row_of(["k", "l", "m", "n", "o"]), "o", "off", {"p": "last"})
        other = row_of(["v", "w", "x", "y", "z"])
        deeds = tuple((name, "on") for name in ("first", "k", "l", "m", "n")) + (("o", "off"),)
        self.assertEqual(told(self, parting, one, other), (0, deeds))
        self.assertEqual(told(self, parting, other, one), (1, deeds))

    def test_which_are_partings(self):
        for thing, wanted in (
            ((0, AGAIN), True), ((0, AGAIN[:3]), True), ((0, AGAIN[:2]), False), ((1, AGAIN[:2]), False),
            ((0, AGAIN[:2] + (("y", "yes"),)), True), ((0, ()), False), ((1, ()), False), ((1, AGAIN), False),
            ((2, AGAIN), False), ((-1, AGAIN), False), ((False, AGAIN), False), ((None, AGAIN), False), ((0,), False),
            ([0, AGAIN], False), ((0, list(AGAIN)), False), ((0, AGAIN, 0), False), (("0", AGAIN), False), ((), False),
        ):
            self.assertIs(told(self, is_parting, LONG, ONCE, thing), wanted, thing)
        self.assertIs(told(self, is_parting, ONCE, LONG, (1, AGAIN)), True)
        for index in (True, 0, 2, -1, None, "1"):
            self.assertIs(told(self, is_parting, ONCE, LONG, (index, AGAIN)), False)
        self.assertIs(told(self, is_parting, LONG, SHORT, (0, AGAIN)), False)

    def test_any_values(self):
        counts = [0, 0]
        for thing in variants((0, AGAIN[:3])):
            wanted = False
            if isinstance(thing, tuple) and len(thing) == 2 and type(thing[0]) is int and isinstance(thing[1], tuple):
                is_form = all(isinstance(deed, tuple) and deed in plain_nexts(LONG) for deed in thing[1] if is_key(deed))
                is_form = is_form and all(is_key(deed) for deed in thing[1])
                wanted = thing[0] in (0, 1) and is_form and plain_is_parting(LONG, ONCE, thing)
            counts[wanted] += 1
            self.assertIs(told(self, is_parting, LONG, ONCE, thing), wanted, thing)
        self.assertGreater(min(counts), 0)

    def test_just_one_of_both_exists(self):
        counts = [0, 0]
        for one, other in cases(240):
            found, many = told(self, parting, one, other), plain_parting(one, other)[0]
            counts[found is not None] += 1
            self.assertIs(found is None, are_alike(one, other))
            self.assertIs(found is None, likeness(one, other) is not None)
            self.assertEqual(None if found is None else len(found[1]), many)
            if found is not None:
                self.assertTrue(plain_is_parting(one, other, found))
                self.assertIs(told(self, is_parting, one, other, found), True)
        self.assertGreater(min(counts), 15)

    def test_2000_and_more(self):
        self.assertEqual(plain_parting(ALONE, ALONE), (None, 2))
        self.assertIsNone(told(self, parting, JUST_2000, JUST_2000))
        self.assertEqual(raised(self, TooMany, parting, OVER_2000, OVER_2000), {"most": 2000})
        # A LIKENESS there is all the same, and a RUN can be looked at.
        self.assertIsNotNone(told(self, likeness, OVER_2000, OVER_2000))
        self.assertIs(told(self, is_parting, OVER_2000, JUST_2000, (0, (("first", "p"),))), True)

    def test_all_are_looked_at_ahead_of_those_that_come_next(self):
        # `nil` is not the same in both; but from `many` too many are come to, if there are as many DEEDS.
        one = fan(2100)
        other = with_result(one, "nil", "stop", {"p": "last", "q": "last", "r": "last"})
        self.assertEqual(told(self, parting, one, other), (1, (("first", "z"), ("nil", "stop"))))
        self.assertEqual(told(self, parting, other, one), (0, (("first", "z"), ("nil", "stop"))))
        # With the first STANDING, `many`, `nil` and the END it may be 1,996, and not one more, until `xl` is looked at.
        late = with_result(fan(1997), "xl", "stop", {"p": "last"})
        self.assertEqual(raised(self, TooMany, parting, fan(1997), late), {"most": 2000})
        found = told(self, parting, fan(1996), with_result(fan(1996), "xl", "stop", {"p": "last"}))
        self.assertEqual((found[0], len(found[1]), found[1][-1]), (1, 3, ("xl", "stop")))

    def test_great_ones(self):
        for seed in range(8):
            dealing = great_dealing(seed)
            self.assertIsNotNone(told(self, likeness, dealing, least_form(dealing)))
            name, _, _, results = dealing[1][-1]
            other = with_result(dealing, name, "other", dict(results[0][1]))
            self.assertIsNone(told(self, likeness, dealing, other))
        self.assertEqual(len(plain_lots(great_dealing(0))), 24)


if __name__ == "__main__":
    unittest.main()
