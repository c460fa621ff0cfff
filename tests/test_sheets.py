"""[35]: USES of sheets, RACES, and what is read of what was written."""

import itertools
import unittest

from partedmeet.dealings import all_deeds
from partedmeet.dealingtexts import read_dealing
from partedmeet.errors import TooMany
from partedmeet.runs import same_rope
from partedmeet.sheets import is_race_run, is_unwritten_run, is_use, race_run, races, sources, unwritten_run
from partedmeet.together import all_together, together_run
from tests.helper import ALONE, BOTH, CROSS, PLAIN, SALE, THREE, Dice, many_dealings, plain_deeds, plain_is_sound
from tests.helper import plain_lots, raised, told, variants
from tests.more import IDLE, LOOPS, are_same, dict_variants, fan, plain_open, plain_run, plain_start, row_of, some_run
from tests.plain import JUST_2000, OVER_2000, great_dealing

USE = {("left", "on"): (("plan",), ()), ("right", "on"): ((), ("plan",)), ("left", "over"): (("plan",), ("note",))}


def plain_is_use(dealing, thing):
    if not isinstance(thing, dict) or not set(thing) <= set(all_deeds(dealing)):
        return False
    for used in thing.values():
        if not isinstance(used, tuple) or len(used) != 2 or not all(isinstance(part, tuple) for part in used):
            return False
        for part in used:
            for name in part:
                is_name = isinstance(name, str) and 1 <= len(name) <= 12 and set(name) <= set("abcdefghijklmnopqrstuvwxyz")
                if not is_name:
                    return False
            if list(part) != sorted(set(part)):
                return False
    return True


def some_use(dealing, dice, most):
    found = {}
    for deed in dice.shuffled(all_deeds(dealing)):
        if dice.below(3):
            sheets = ["m", "n", "o"][:most]
            found[deed] = tuple(tuple(sheet for sheet in sheets if dice.below(3) == 0) for _ in range(2))
    return found


def plain_races(dealing, use):
    found = []
    for one, other in itertools.combinations(sorted(use), 2):
        for sheet in "mno":
            used = [sheet in use[deed][0] + use[deed][1] for deed in (one, other)]
            written = [sheet in use[deed][1] for deed in (one, other)]
            if all(used) and any(written) and (one[0], other[0]) in all_together(dealing):
                found.append((sheet, one, other))
    return tuple(sorted(found))


def plain_unwritten(dealing, use, sheet, most):
    """(run, many): the run by the words of [35], None if there is none; and how many STANDINGS are come to by then"""
    nothing = ((), ())
    known, rows = {plain_start(dealing)}, [((), plain_start(dealing))]
    while rows:
        steps = [(deeds + (deed,), behind) for deeds, at in rows for deed, behind in plain_deeds(dealing, at)]
        ended = sorted(deeds for deeds, _ in steps if sheet in use.get(deeds[-1], nothing)[0])
        if ended:
            return ended[0], len(known)
        steps = sorted((deeds, at) for deeds, at in steps if sheet not in use.get(deeds[-1], nothing)[1])
        rows = []
        for deeds, at in steps:
            if at not in known:
                known.add(at)
                rows.append((deeds, at))
        if len(known) > most:
            return None, len(known)
    return None, len(known)


class Uses(unittest.TestCase):
    def test_known_ones(self):
        for dealing, use in ((BOTH, USE), (BOTH, {}), (ALONE, {}), (ALONE, {("first", "go"): ((), ())})):
            self.assertIs(told(self, is_use, dealing, use), True)
        self.assertIs(told(self, is_use, IDLE, {("side", "on"): (("a", "b"), ("c",)), ("lone", "on"): ((), ("z" * 12,))}), True)
        wrong = (
            {("left", "no"): ((), ())}, {("last", "on"): ((), ())}, {("left",): ((), ())}, {"left": ((), ())},
            {("left", "on"): ()}, {("left", "on"): ((),)}, {("left", "on"): ((), (), ())}, {("left", "on"): [(), ()]},
            {("left", "on"): (["plan"], ())}, {("left", "on"): ((), None)}, {("left", "on"): (("plan", "note"), ())},
            {("left", "on"): ((), ("plan", "plan"))}, {("left", "on"): (("Plan",), ())}, {("left", "on"): ((True,), ())},
            {("left", "on"): ("plan", ())}, {("left", "on"): (("z" * 13,), ())}, {1: ((), ())}, {True: ((), ())},
        )
        for thing in wrong:
            self.assertIs(told(self, is_use, BOTH, thing), False, thing)

    def test_any_values(self):
        for dealing, use in ((BOTH, USE), (SALE, {("loan", "grant"): (("a", "b"), ("a",))})):
            counts = [0, 0]
            for thing in dict_variants(use):
                wanted = plain_is_use(dealing, thing)
                counts[wanted] += 1
                self.assertIs(told(self, is_use, dealing, thing), wanted, thing)
            self.assertGreater(min(counts), 3)


class Races(unittest.TestCase):
    def test_known_ones(self):
        wanted = (("plan", ("left", "on"), ("right", "on")), ("plan", ("left", "over"), ("right", "on")))
        self.assertEqual(told(self, races, BOTH, USE), wanted)
        for race in wanted:
            self.assertEqual(told(self, race_run, BOTH, race), (("first", "go"),))

    def test_who_reads_alone_does_not_race(self):
        both = {("left", "on"): (("a",), ()), ("right", "on"): (("a",), ())}
        self.assertEqual(told(self, races, BOTH, both), ())
        for reads, writes in (((), ("a",)), (("a",), ("a",))):
            use = {**both, ("left", "on"): (reads, writes)}
            self.assertEqual(told(self, races, BOTH, use), (("a", ("left", "on"), ("right", "on")),))
        two = {("left", "on"): (("b",), ("a",)), ("right", "on"): (("a",), ("b",))}
        wanted = (("a", ("left", "on"), ("right", "on")), ("b", ("left", "on"), ("right", "on")))
        self.assertEqual(told(self, races, BOTH, two), wanted)
        self.assertEqual(told(self, races, BOTH, {("left", "on"): (("b",), ()), ("right", "on"): ((), ("a",))}), ())

    def test_rounds_that_are_not_together_do_not_race(self):
        use = {deed: (("a",), ("a",)) for deed in all_deeds(BOTH)}
        wanted = (("a", ("left", "on"), ("right", "on")), ("a", ("left", "over"), ("right", "on")))
        self.assertEqual(told(self, races, BOTH, use), wanted)
        for dealing in (SALE, PLAIN, ALONE, IDLE):
            use = {deed: (("a",), ("a",)) for deed in all_deeds(dealing)}
            self.assertEqual(told(self, races, dealing, use), ())
        self.assertEqual(told(self, races, BOTH, {}), ())
        self.assertEqual(told(self, races, BOTH, {deed: ((), ()) for deed in all_deeds(BOTH)}), ())

    def test_against_plain_searches(self):
        counts = [0, 0]
        for seed, dealing in enumerate([LOOPS, BOTH, CROSS] + many_dealings(150)):
            use = some_use(dealing, Dice(seed), 3)
            self.assertIs(is_use(dealing, use), True)
            found = told(self, races, dealing, use)
            self.assertEqual(found, plain_races(dealing, use))
            counts[found != ()] += 1
            for race in found[:3]:
                self.assertEqual(told(self, race_run, dealing, race), together_run(dealing, race[1][0], race[2][0]))
        self.assertGreater(min(counts), 10)

    def test_2000_and_more(self):
        race = ("s", ("ax", "on"), ("bx", "on"))
        self.assertEqual(len(told(self, race_run, JUST_2000, race)), 1)
        self.assertEqual(raised(self, TooMany, race_run, OVER_2000, race), {"most": 2000})

    def test_great_ones(self):
        for seed in range(6):
            dealing = great_dealing(8 * seed + 7)
            use = some_use(dealing, Dice(seed), 3)
            self.assertEqual(told(self, races, dealing, use), plain_races(dealing, use))


class RaceRuns(unittest.TestCase):
    def test_known_ones(self):
        race = ("plan", ("left", "on"), ("right", "on"))
        go = (("first", "go"),)
        self.assertIs(told(self, is_race_run, BOTH, USE, race, go), True)
        self.assertIs(told(self, is_race_run, BOTH, USE, race, go + (("left", "over"),)), True)
        self.assertIs(told(self, is_race_run, BOTH, USE, race, go + (("left", "on"),)), False)
        self.assertIs(told(self, is_race_run, BOTH, USE, race, ()), False)
        self.assertIs(told(self, is_race_run, BOTH, USE, ("plan", race[2], race[1]), go), True)
        self.assertIs(told(self, is_race_run, BOTH, USE, ("note",) + race[1:], go), False)
        self.assertIs(told(self, is_race_run, BOTH, USE, ("plan", race[1], ("left", "over")), go), False)
        self.assertIs(told(self, is_race_run, BOTH, USE, ("plan", race[1], race[1]), go), False)
        note = {**USE, ("left", "on"): (("plan",), ("plan",))}
        self.assertIs(told(self, is_race_run, BOTH, note, ("plan", race[1], ("left", "over")), go), False)
        self.assertIs(told(self, is_race_run, BOTH, {}, race, go), False)
        self.assertIs(told(self, is_race_run, BOTH, {race[1]: (("plan",), ()), race[2]: (("plan",), ())}, race, go), False)

    def test_rounds_that_are_not_led(self):
        use = {("left", "on"): (("a",), ("a",)), ("side", "on"): (("a",), ("a",))}
        self.assertIs(told(self, is_race_run, IDLE, use, ("a", ("left", "on"), ("side", "on")), (("first", "go"),)), False)

    def test_any_values(self):
        race = ("plan", ("left", "on"), ("right", "on"))
        counts = [0, 0]
        for thing in variants((("first", "go"), ("left", "over"))):
            wanted = isinstance(thing, tuple) and are_same(thing, (("first", "go"),) + (("left", "over"),) * (len(thing) - 1))
            counts[wanted] += 1
            self.assertIs(told(self, is_race_run, BOTH, USE, race, thing), wanted, thing)
        self.assertGreater(min(counts), 1)

    def test_what_race_run_tells_is_one(self):
        many = 0
        for seed, dealing in enumerate([LOOPS, BOTH] + many_dealings(100)):
            if plain_is_sound(dealing):
                use = {deed: (("m",), ("m", "n")) for deed in all_deeds(dealing)}
                for race in races(dealing, use):
                    many += 1
                    deeds = race_run(dealing, race)
                    self.assertIs(is_race_run(dealing, use, race, deeds), True)
                    ready = plain_open(dealing, plain_run(dealing, deeds))
                    self.assertTrue({race[1][0], race[2][0]} <= set(ready))
        self.assertGreater(many, 20)

    def test_400_deeds_and_more(self):
        race = ("plan", ("left", "on"), ("right", "on"))
        for many in (399, 400, 500):
            deeds = (("first", "go"),) + (("left", "over"),) * many
            self.assertIs(told(self, is_race_run, BOTH, USE, race, deeds), True)
            self.assertIs(told(self, is_race_run, BOTH, USE, race, deeds + (("left", "on"),)), False)


class Sources(unittest.TestCase):
    def test_known_ones(self):
        go, on, over, right = ("first", "go"), ("left", "on"), ("left", "over"), ("right", "on")
        self.assertEqual(told(self, sources, BOTH, USE, ()), ())
        self.assertEqual(told(self, sources, BOTH, USE, (go, right, on)), ((), (), (("plan", 1),)))
        self.assertEqual(told(self, sources, BOTH, USE, (go, over)), ((), (("plan", None),)))
        self.assertEqual(told(self, sources, BOTH, {}, (go, over, on)), ((), (), ()))
        # What is read is read ahead of what is written: the DEED itself is no source.
        use = {over: (("a", "b"), ("a",)), go: ((), ("b",))}
        wanted = ((), (("a", None), ("b", 0)), (("a", 1), ("b", 0)), (("a", 2), ("b", 0)))
        self.assertEqual(told(self, sources, BOTH, use, (go, over, over, over)), wanted)
        use = {go: (("b",), ("b", "c")), on: (("b", "c"), ())}
        self.assertEqual(told(self, sources, BOTH, use, (go, on)), ((("b", None),), (("b", 0), ("c", 0))))

    def test_against_a_plain_search(self):
        for seed, dealing in enumerate([LOOPS, BOTH] + many_dealings(60)):
            dice = Dice(seed)
            use, deeds = some_use(dealing, dice, 3), some_run(dealing, dice, 9)
            wanted = []
            for index, deed in enumerate(deeds):
                row = []
                for sheet in use.get(deed, ((), ()))[0]:
                    wrote = [at for at in range(index) if sheet in use.get(deeds[at], ((), ()))[1]]
                    row.append((sheet, max(wrote, default=None)))
                wanted.append(tuple(row))
            self.assertEqual(told(self, sources, dealing, use, deeds), tuple(wanted))

    def test_one_rope_reads_alike_where_nothing_races(self):
        many = 0
        for seed, dealing in enumerate([LOOPS, BOTH] + many_dealings(260)):
            if plain_is_sound(dealing):
                dice = Dice(seed)
                use = some_use(dealing, dice, 1 + seed % 2)
                if races(dealing, use) == ():
                    tries = [some_run(dealing, dice, 8) for _ in range(12)]
                    for one, other in itertools.combinations(sorted(set(tries)), 2):
                        if same_rope(dealing, one, other):
                            many += 1
                            self.assertEqual(self.readings(dealing, use, one), self.readings(dealing, use, other))
        self.assertGreater(many, 10)

    def readings(self, dealing, use, deeds):
        """what each DEED of each party read, told by who wrote it: a party, and which of its DEEDS that was"""
        found = []
        lots = plain_lots(dealing)
        for party in dealing[0]:
            own = [(at, row) for at, row in enumerate(sources(dealing, use, deeds)) if party in lots[deeds[at][0]]]
            found.append([[(sheet, self.order(lots, deeds, at)) for sheet, at in row] for _, row in own])
        return found

    def order(self, lots, deeds, at):
        """the least party of a DEED, and how many DEEDS it has done ahead of it"""
        if at is None:
            return None
        party = lots[deeds[at][0]][0]
        return (party, len([deed for deed in deeds[:at] if party in lots[deed[0]]]))


class Unwritten(unittest.TestCase):
    def test_known_ones(self):
        go, on, over, right = ("first", "go"), ("left", "on"), ("left", "over"), ("right", "on")
        self.assertEqual(told(self, unwritten_run, BOTH, USE, "plan"), (go, on))
        self.assertIsNone(told(self, unwritten_run, BOTH, USE, "note"))
        self.assertIsNone(told(self, unwritten_run, BOTH, {}, "plan"))
        self.assertEqual(told(self, unwritten_run, BOTH, {go: (("a",), ("a",))}, "a"), (go,))
        # Of the shortest ones the least one; but not by way of who writes it.
        self.assertEqual(told(self, unwritten_run, BOTH, {over: (("a",), ()), right: (("a",), ())}, "a"), (go, over))
        self.assertIsNone(told(self, unwritten_run, BOTH, {over: (("a",), ()), go: ((), ("a",))}, "a"))
        self.assertEqual(told(self, unwritten_run, SALE, {("deal", "off"): (("a",), ())}, "a")[-1], ("deal", "off"))

    def test_which_runs_end_so(self):
        go, on, over, right = ("first", "go"), ("left", "on"), ("left", "over"), ("right", "on")
        use = {over: (("a",), ()), on: ((), ("a",)), right: (("a",), ("a",))}
        for deeds, wanted in (
            ((), False), ((go,), False), ((go, over), True), ((go, on), False), ((go, right), True), ((go, over, on), False),
            ((go, over, right), True), ((go, on, right), False), ((go, right, over), False), ((go, over, over, on, right), False),
            ((go, over, over, over), True), ((over,), False), ((go, go), False),
        ):
            self.assertIs(told(self, is_unwritten_run, BOTH, use, "a", deeds), wanted, deeds)
            self.assertIs(told(self, is_unwritten_run, BOTH, use, "b", deeds), False)

    def test_a_longer_one_around_who_writes(self):
        dealing = read_dealing(
            "parties a\nround first a a\nresult k a x\nresult l a y\nround x a a\nresult on a z\nround y a a\nresult on a x\n"
            "round z a a\nresult on a last\nround last a a"
        )
        use = {("z", "on"): (("s",), ("s",)), ("first", "k"): ((), ("s",))}
        long = (("first", "l"), ("y", "on"), ("x", "on"), ("z", "on"))
        self.assertEqual(told(self, unwritten_run, dealing, use, "s"), long)
        self.assertIs(told(self, is_unwritten_run, dealing, use, "s", long), True)
        short = (("first", "k"), ("x", "on"), ("z", "on"))
        self.assertIs(told(self, is_unwritten_run, dealing, use, "s", short), False)
        self.assertEqual(told(self, unwritten_run, dealing, {("z", "on"): (("s",), ())}, "s"), short)

    def test_against_a_plain_search(self):
        counts = [0, 0]
        for seed, dealing in enumerate([LOOPS, BOTH, THREE, CROSS] + many_dealings(250)):
            use = some_use(dealing, Dice(seed), 2)
            for sheet in ("m", "n", "q"):
                wanted, _ = plain_unwritten(dealing, use, sheet, 2000)
                self.assertEqual(told(self, unwritten_run, dealing, use, sheet), wanted)
                if sheet != "q":
                    counts[wanted is not None] += 1
                if wanted is not None:
                    self.assertIs(told(self, is_unwritten_run, dealing, use, sheet, wanted), True)
        self.assertGreater(min(counts), 50)

    def test_rounds_that_are_not_led(self):
        self.assertIsNone(told(self, unwritten_run, IDLE, {("side", "on"): (("a",), ()), ("lone", "on"): (("a",), ())}, "a"))

    def test_any_values(self):
        counts = [0, 0]
        use = {("left", "over"): (("plan",), ()), ("left", "on"): ((), ("plan",)), ("right", "on"): (("plan",), ("plan",))}
        for thing in list(variants((("first", "go"), ("left", "over"), ("right", "on")))) + list(variants(())):
            wanted = False
            if isinstance(thing, tuple) and len(thing) > 1:
                # These are the only RUNS that read it last, and of which no DEED ahead writes it.
                ended = thing[-1] in (("left", "over"), ("right", "on")) and thing[0] == ("first", "go")
                wanted = ended and all(deed == ("left", "over") for deed in thing[1:-1])
            counts[wanted] += 1
            self.assertIs(told(self, is_unwritten_run, BOTH, use, "plan", thing), wanted, thing)
        self.assertGreater(min(counts), 2)

    def test_2000_and_more(self):
        self.assertIsNone(told(self, unwritten_run, JUST_2000, {}, "s"))
        self.assertEqual(raised(self, TooMany, unwritten_run, OVER_2000, {}, "s"), {"most": 2000})
        last = {("az", "on"): (("s",), ())}
        self.assertIsNotNone(told(self, unwritten_run, OVER_2000, last, "s"))
        # STANDINGS to which only those lead who write the sheet are not come to.
        wrote = {("first", "p"): ((), ("s",))}
        self.assertIsNone(told(self, unwritten_run, OVER_2000, wrote, "s"))
        self.assertIs(told(self, is_unwritten_run, OVER_2000, {}, "s", ()), False)

    def test_all_are_looked_at_ahead_of_those_that_come_next(self):
        # From `many` 1,998 unlike STANDINGS are come to, while from `nil`, which comes last, the sheet is read.
        dealing = fan(1998)
        use = {("nil", "read"): (("s",), ())}
        self.assertEqual(told(self, unwritten_run, dealing, use, "s"), (("first", "z"), ("nil", "read")))
        # With `first`, `many` and `nil` that is one too many; without `nil` just as many as there may be.
        for use in ({}, {("xl", "on"): (("s",), ())}):
            self.assertEqual(raised(self, TooMany, unwritten_run, dealing, use, "s"), {"most": 2000})
        just = {("first", "z"): ((), ("s",)), ("xl", "on"): (("s",), ())}
        wanted = (("first", "a"), ("many", "laa"), ("xl", "on"))
        self.assertEqual(told(self, unwritten_run, dealing, just, "s"), wanted)
        self.assertEqual(raised(self, TooMany, unwritten_run, fan(1999), just, "s"), {"most": 2000})

    def test_a_long_row(self):
        dealing = row_of(["a" + letter for letter in "bcdefghijklmnopqrstuvw"])
        use = {("aw", "on"): (("s",), ()), ("ab", "on"): (("t",), ("t",))}
        self.assertEqual(len(told(self, unwritten_run, dealing, use, "s")), 23)
        self.assertEqual(len(told(self, unwritten_run, dealing, use, "t")), 2)


if __name__ == "__main__":
    unittest.main()
