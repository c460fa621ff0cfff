"""[25], [26], and what [5], [6] and [10] say of them: CERTIFICATES, WALLS, RINGS, and WAYS that are led."""

import itertools
import unittest

from partedmeet.certificates import certificate, flaw, is_certificate, is_ring, led_to, ring, wall, walled
from partedmeet.dealingtexts import read_dealing
from partedmeet.errors import TooMany
from tests.helper import ALONE, BOTH, CROSS, FIXED, LOST, OTHER_KINDS, SALE, STUCK, THREE, kinds_of, many_dealings
from tests.helper import outcome, plain_deeds, plain_is_sound, plain_led, plain_length, plain_lots, plain_meetings
from tests.helper import plain_met, plain_nexts, plain_steps, raised, told, variants
from tests.plain import all_standings, chains, great_dealing, plain_date, plain_tree

# Behind `go` a and b wait for each other; but c can go round on its own, and has a WALL.
BESIDE = read_dealing(
    "parties a b c\nround first a a b c\nresult go a x b y c u\nround x a a b\nresult on a last b last\n"
    "round y a a b\nresult on a last b last\nround u c c\nresult on c v\nresult back c u\nround v c c\nresult on c u\n"
    "round last a a b c"
)
# a waits for b, b for c, c for a; but d and e wait for each other.
RINGS = read_dealing(
    "parties a b c d e\nround first a a b c d e\nresult go a ab b bc c ac d du e eu\nresult out a last b last c last "
    "d last e last\nround ab a a b\nresult on a last b last\nround bc b b c\nresult on b last c last\nround ac a a c\n"
    "result on a last c last\nround du d d e\nresult on d last e last\nround eu d d e\nresult on d last e last\n"
    "round last a a b c d e"
)


def first_of(dealing):
    return tuple((party, "first") for party in dealing[0])


def plain_is_walled(dealing, standing, party, names):
    lots, steps = plain_lots(dealing), plain_steps(dealing, party)
    if "last" in names or dict(standing)[party] not in names or list(names) != sorted(set(names)):
        return False
    return all(name in lots and party in lots[name] and steps[name] <= set(names) for name in names)


def plain_walls(dealing, standing, party):
    names = sorted(plain_steps(dealing, party))
    sets = [lot for many in range(1, len(names) + 1) for lot in itertools.combinations(names, many)]
    return [lot for lot in sets if plain_is_walled(dealing, standing, party, lot)]


def plain_is_ring(dealing, standing, parties):
    lots, places = plain_lots(dealing), dict(standing)
    if len(parties) < 2 or len(set(parties)) < len(parties):
        return False
    pairs = zip(parties, parties[1:] + parties[:1])
    return all(other in lots[places[one]] and places[other] != places[one] for one, other in pairs)


def plain_rings(dealing, standing):
    rows = [row for many in range(2, len(dealing[0]) + 1) for row in itertools.permutations(dealing[0], many)]
    return [row for row in rows if plain_is_ring(dealing, standing, row)]


def plain_certificate(dealing):
    """the CERTIFICATE of a SOUND DEALING"""
    lots, names = plain_lots(dealing), plain_led(dealing)
    lengths, table = [], []
    for name in names:
        for party in lots[name]:
            lengths.append((name, party, plain_length(plain_steps(dealing, party), name, "last")))
    for (name, word), nexts in sorted(plain_nexts(dealing).items()):
        for one, other in itertools.combinations(sorted(nexts), 2):
            if name in names:
                lot = plain_meetings(dealing, nexts[one], one, other)[0]
                more = plain_meetings(dealing, nexts[other], other, one)[0]
                table.append((name, word, one, other, plain_date(dealing, name, word, one, other), lot, more))
    return ("sound", tuple(lengths), tuple(table), plain_tree(dealing, tuple(names))[0])


def plain_behind(dealing, deeds):
    """the STANDING behind a row of DEEDS, None if it is no RUN"""
    here = first_of(dealing)
    for deed in deeds:
        here = dict(plain_deeds(dealing, here)).get(deed)
        if here is None:
            return None
    return here


def plain_led_to(dealing, way):
    """(run, is_open), by the words of [26] and [20]"""
    steps, nexts, lots = plain_steps(dealing), plain_nexts(dealing), plain_lots(dealing)
    chosen = {}
    for (name, word), places in sorted(nexts.items()):
        length = plain_length(steps, name, "last")
        for _, there in sorted(places.items()):
            if name in plain_led(dealing) and length and plain_length(steps, there, "last") == length - 1:
                chosen.setdefault(name, word)
    here, deeds = first_of(dealing), ()
    for name, there in zip(way, way[1:]):
        word = min(word for (at, word), places in nexts.items() if at == name and there in places.values())
        while word:
            deeds = deeds + ((name, word),)
            here = dict(plain_deeds(dealing, here))[(name, word)]
            is_there = all(at == there for party, at in here if party in lots[there])
            name = min([at for (at, _), _ in plain_deeds(dealing, here) if at in chosen], default=None)
            word = None if is_there else chosen.get(name)
        if not is_there:
            return deeds, False
    return deeds, True


class Flaws(unittest.TestCase):
    def test_known_walls(self):
        behind = (("a", "x"), ("b", "last"))
        self.assertEqual(told(self, wall, STUCK, behind, "a"), ("x",))
        self.assertIsNone(told(self, wall, STUCK, behind, "b"))
        self.assertEqual(told(self, wall, STUCK, first_of(STUCK), "a"), ("first", "x"))
        self.assertIsNone(told(self, wall, STUCK, first_of(STUCK), "b"))
        self.assertIs(told(self, walled, STUCK, behind, "a", ("x",)), True)
        self.assertIs(told(self, walled, STUCK, behind, "b", ("last",)), False)
        self.assertEqual(told(self, wall, LOST, (("a", "pit"), ("b", "lone")), "a"), ("pit",))
        self.assertIsNone(told(self, wall, LOST, (("a", "pit"), ("b", "lone")), "b"))

    def test_a_wall_may_be_greater_than_the_least(self):
        # On v c goes to u, on u to u or v; first leads to u.
        behind = (("a", "x"), ("b", "y"), ("c", "v"))
        self.assertEqual(told(self, wall, BESIDE, behind, "c"), ("u", "v"))
        self.assertIs(told(self, walled, BESIDE, behind, "c", ("first", "u", "v")), True)
        self.assertIs(told(self, walled, BESIDE, behind, "c", ("v",)), False)
        self.assertIs(told(self, walled, BESIDE, behind, "c", ("u",)), False)
        self.assertIs(told(self, walled, BESIDE, behind, "a", ("u", "v")), False)

    def test_walls_against_a_plain_search(self):
        counts = [0, 0]
        for dealing in [BESIDE] + many_dealings(40):
            for standing in list(all_standings(dealing))[::3]:
                for party in dealing[0]:
                    walls = plain_walls(dealing, standing, party)
                    self.assertEqual(wall(dealing, standing, party), walls[0] if walls else None)
                    counts[walls == []] += 1
                    if walls:
                        self.assertTrue(all(len(lot) > len(walls[0]) for lot in walls[1:]))
            self.assertEqual(told(self, wall, dealing, standing, party), walls[0] if walls else None)
            names = sorted(plain_lots(dealing))
            for lot in [lot for many in range(4) for lot in itertools.permutations(names, many)]:
                wanted = plain_is_walled(dealing, standing, party, lot)
                self.assertIs(told(self, walled, dealing, standing, party, lot), wanted)
        self.assertGreater(min(counts), 100)

    def test_walled_of_any_value(self):
        behind = (("a", "x"), ("b", "y"), ("c", "v"))
        for thing in variants(("u", "v")):
            wanted = kinds_of(thing) == kinds_of(("u", "v"))
            self.assertIs(told(self, walled, BESIDE, behind, "c", thing), wanted, thing)
        for thing in OTHER_KINDS + (("none", "u", "v"), ("u", "u", "v"), ("v", "u"), ["u", "v"], "uv", (["u"], "v")):
            self.assertIs(told(self, walled, BESIDE, behind, "c", thing), False, thing)

    def test_known_rings(self):
        behind = (("a", "x"), ("b", "y"))
        self.assertIn(told(self, ring, CROSS, behind), (("a", "b"), ("b", "a")))
        self.assertIs(told(self, is_ring, CROSS, behind, ("a", "b")), True)
        self.assertIs(told(self, is_ring, CROSS, behind, ("b", "a")), True)
        self.assertIsNone(told(self, ring, CROSS, first_of(CROSS)))
        self.assertIs(told(self, is_ring, CROSS, first_of(CROSS), ("a", "b")), False)
        three = (("a", "x"), ("b", "y"), ("c", "z"))
        self.assertIs(told(self, is_ring, THREE, three, ("a", "b", "c")), True)
        self.assertIs(told(self, is_ring, THREE, three, ("a", "c", "b")), False)
        self.assertIs(told(self, is_ring, THREE, three, ("a", "b", "c", "a", "b", "c")), False)
        self.assertEqual(sorted(told(self, ring, THREE, three)), ["a", "b", "c"])

    def test_last_may_be_in_a_ring(self):
        self.assertIs(told(self, is_ring, CROSS, (("a", "last"), ("b", "x")), ("b", "a")), True)
        self.assertIn(told(self, ring, CROSS, (("a", "last"), ("b", "x"))), (("a", "b"), ("b", "a")))

    def test_the_shortest_ring(self):
        behind = (("a", "ab"), ("b", "bc"), ("c", "ac"), ("d", "du"), ("e", "eu"))
        self.assertIs(told(self, is_ring, RINGS, behind, ("b", "c", "a")), True)
        self.assertIs(told(self, is_ring, RINGS, behind, ("a", "b")), False)
        self.assertEqual(sorted(told(self, ring, RINGS, behind)), ["d", "e"])

    def test_rings_against_a_plain_search(self):
        sizes = {}
        for dealing in [BESIDE, RINGS] + many_dealings(60):
            for standing in list(all_standings(dealing))[::7]:
                rings = plain_rings(dealing, standing)
                found = told(self, ring, dealing, standing)
                if rings:
                    self.assertIn(found, rings)
                    self.assertEqual(len(found), min(len(row) for row in rings))
                else:
                    self.assertIsNone(found)
                sizes[found and len(found)] = sizes.get(found and len(found), 0) + 1
            for many in range(len(dealing[0]) + 2):
                for row in list(itertools.product(dealing[0], repeat=many))[:300]:
                    wanted = plain_is_ring(dealing, standing, row)
                    self.assertIs(told(self, is_ring, dealing, standing, row), wanted)
        self.assertGreater(min(sizes[None], sizes[2]), 100)
        self.assertGreater(sizes[3], 0)

    def test_is_ring_of_any_value(self):
        behind = (("a", "x"), ("b", "y"))
        for thing in variants(("a", "b")):
            wanted = kinds_of(thing) in (kinds_of(("a", "b")), kinds_of(("b", "a")))
            self.assertIs(told(self, is_ring, CROSS, behind, thing), wanted, thing)
        for thing in OTHER_KINDS + (["a", "b"], "ab", (["a"], "b"), ("a", "c"), ("a", "b", "a", "b"), {"a": 1, "b": 2}):
            self.assertIs(told(self, is_ring, CROSS, behind, thing), False, thing)

    def test_flaws(self):
        # The least party with a WALL comes ahead of any RING.
        self.assertEqual(told(self, flaw, BESIDE, (("a", "x"), ("b", "y"), ("c", "u"))), ("wall", "c", ("u", "v")))
        self.assertEqual(told(self, flaw, LOST, (("a", "pit"), ("b", "pit"))), ("wall", "a", ("pit",)))
        self.assertEqual(told(self, flaw, LOST, (("a", "last"), ("b", "pit"))), ("wall", "b", ("pit",)))
        self.assertEqual(told(self, flaw, CROSS, (("a", "x"), ("b", "y")))[0], "ring")
        self.assertIsNone(told(self, flaw, ALONE, (("p", "first"),)))
        for dealing in [BESIDE, RINGS] + many_dealings(40):
            for standing in list(all_standings(dealing))[::5]:
                wanted = None
                for party in dealing[0]:
                    walls = plain_walls(dealing, standing, party)
                    if walls and not wanted:
                        wanted = ("wall", party, walls[0])
                found = told(self, flaw, dealing, standing)
                if wanted or not plain_rings(dealing, standing):
                    self.assertEqual(found, wanted)
                else:
                    self.assertEqual(found, ("ring", ring(dealing, standing)))


class Certificates(unittest.TestCase):
    def check_unsound(self, dealing, thing):
        head, deeds, why = thing
        self.assertEqual(head, "unsound")
        standing = plain_behind(dealing, deeds)
        self.assertIsNotNone(standing)
        if why[0] == "wall":
            self.assertEqual(len(why), 3)
            self.assertIs(plain_is_walled(dealing, standing, why[1], why[2]), True)
        else:
            self.assertEqual((why[0], len(why)), ("ring", 2))
            self.assertIs(plain_is_ring(dealing, standing, why[1]), True)

    def test_one_of_each_sort(self):
        wanted = ("sound", (("first", "p", 1), ("last", "p", 0)), (), ())
        self.assertEqual(told(self, certificate, ALONE), wanted)
        self.check_unsound(STUCK, told(self, certificate, STUCK))
        self.assertEqual(certificate(STUCK)[2][:2], ("wall", "a"))
        self.check_unsound(CROSS, told(self, certificate, CROSS))
        self.assertEqual(certificate(CROSS)[2][0], "ring")

    def test_of_small_dealings(self):
        counts = [0, 0]
        for dealing in [BESIDE, RINGS] + many_dealings(250):
            is_sound = plain_is_sound(dealing)
            found = told(self, certificate, dealing)
            counts[is_sound] += 1
            self.assertIs(told(self, is_certificate, dealing, found), True)
            if is_sound:
                self.assertEqual(kinds_of(found), kinds_of(plain_certificate(dealing)))
            else:
                self.check_unsound(dealing, found)
        self.assertGreater(min(counts), 60)

    def test_just_one_of_both_exists(self):
        for dealing in [BESIDE, RINGS] + many_dealings(150):
            flaws = [flaw(dealing, standing) for standing in plain_met(dealing)]
            self.assertIs(plain_is_sound(dealing), flaws == [None] * len(flaws))
        for dealing in (LOST, STUCK, CROSS, THREE):
            self.assertIs(told(self, is_certificate, dealing, plain_certificate(dealing)), False)

    def test_longer_runs_and_greater_walls_do(self):
        for deeds in ((), (("first", "go"),), (("first", "go"), ("u", "back")), (("first", "go"), ("u", "on"))):
            thing = ("unsound", deeds, ("wall", "c", ("u", "v")))
            self.assertIs(told(self, is_certificate, BESIDE, thing), deeds != ())
            thing = ("unsound", deeds, ("wall", "c", ("first", "u", "v")))
            self.assertIs(told(self, is_certificate, BESIDE, thing), True)
            for parties in (("a", "b"), ("b", "a")):
                self.assertIs(told(self, is_certificate, BESIDE, ("unsound", deeds, ("ring", parties))), deeds != ())
        self.assertIs(is_certificate(BESIDE, ("unsound", (("first", "go"), ("x", "on")), ("ring", ("a", "b")))), False)
        self.assertIs(is_certificate(BESIDE, ("unsound", [("first", "go")], ("ring", ("a", "b")))), False)

    def test_any_value_for_a_sound_dealing(self):
        for dealing in (BOTH, ALONE):
            wanted = certificate(dealing)
            for thing in variants(wanted):
                same = kinds_of(thing) == kinds_of(wanted)
                self.assertIs(told(self, is_certificate, dealing, thing), same, thing)
            for thing in ((), ("sound",), ("unsound",), ("sound", (), (), ()), ("unsound", (), ("ring", ("a", "b")))):
                self.assertIs(told(self, is_certificate, dealing, thing), False)

    def test_truths_are_no_lengths(self):
        head, lengths, table, tree = certificate(BOTH)
        for at, (name, party, length) in enumerate(lengths):
            for other in (bool(length), length + 1, -length - 1, str(length), None):
                bent = lengths[:at] + ((name, party, other),) + lengths[at + 1:]
                self.assertIs(told(self, is_certificate, BOTH, (head, bent, table, tree)), False)

    def test_any_value_for_a_dealing_that_is_not_sound(self):
        for dealing, wanted in (
            (BESIDE, ("unsound", (("first", "go"),), ("wall", "c", ("u", "v")))),
            (BESIDE, ("unsound", (("first", "go"),), ("ring", ("a", "b")))),
        ):
            self.assertIs(told(self, is_certificate, dealing, wanted), True)
            right = [wanted, ("unsound", (("first", "go"),), ("ring", ("b", "a")))]
            for thing in variants(wanted):
                same = kinds_of(thing) in [kinds_of(one) for one in right]
                self.assertIs(told(self, is_certificate, dealing, thing), same, thing)
            for head in OTHER_KINDS + ("sound", "ring", "wall"):
                self.assertIs(told(self, is_certificate, dealing, (head,) + wanted[1:]), False)
                self.assertIs(told(self, is_certificate, dealing, wanted[:2] + ((head,) + wanted[2][1:],)), head == wanted[2][0])

    def test_great_ones(self):
        for seed in range(8):
            dealing = great_dealing(seed)
            found = told(self, certificate, dealing)
            self.assertEqual(found[0], "sound")
            self.assertIs(is_certificate(dealing, found), True)
            self.assertIs(is_certificate(dealing, found[:3] + (((),),)), False)

    def test_more_than_2000_met_standings(self):
        # b waits for a at `bx`, while a never comes there: not SOUND, beside six long chains.
        text = "parties a b c d e f g h\nround last a a b c d e f g h\nround ab a a b\nresult on a last b last\n"
        first = "round first a a b c d e f g h\nresult go a last b ab"
        for party in "cdefgh":
            first = first + f" {party} {party}x"
            text = text + f"round {party}x {party} {party}\nresult on {party} {party}y\n"
            text = text + f"round {party}y {party} {party}\nresult on {party} {party}z\n"
            text = text + f"round {party}z {party} {party}\nresult on {party} last\n"
        dealing = read_dealing(text + first)
        kind, told_last = outcome(certificate, (dealing,))[:2]
        if kind == "raises":
            self.assertEqual(raised(self, TooMany, certificate, dealing), {"most": 2000})
        else:
            self.check_unsound(dealing, told_last)
        sound = chains([2, 2, 2, 2, 2, 2, 3, 3], [(0,) * 8])
        self.assertEqual(told(self, certificate, sound)[0], "sound")


class LedTo(unittest.TestCase):
    def test_known_ones(self):
        self.assertEqual(told(self, led_to, BOTH, ("first",)), ((), True))
        self.assertEqual(told(self, led_to, BOTH, ("first", "left")), ((("first", "go"),), True))
        deeds = (("first", "go"), ("left", "over"), ("left", "over"), ("left", "on"), ("right", "on"))
        self.assertEqual(told(self, led_to, BOTH, ("first", "left", "left", "left", "last")), (deeds, True))
        self.assertEqual(told(self, led_to, SALE, ("first", "deal")), ((("first", "ask"), ("loan", "grant")), True))
        self.assertEqual(told(self, led_to, SALE, ("first", "last")), ((("first", "leave"),), True))

    def test_ways_that_can_not_be_led(self):
        self.assertEqual(told(self, led_to, CROSS, ("first", "x")), ((("first", "go"),), False))
        self.assertEqual(told(self, led_to, CROSS, ("first", "x", "last")), ((("first", "go"),), False))
        self.assertEqual(told(self, led_to, STUCK, ("first", "x")), ((("first", "go"),), True))
        self.assertEqual(told(self, led_to, STUCK, ("first", "x", "x")), ((("first", "go"), ("x", "on")), True))
        self.assertEqual(told(self, led_to, STUCK, ("first", "last")), ((("first", "go"),), False))
        self.assertEqual(told(self, led_to, LOST, ("first", "pit")), ((("first", "fall"),), True))
        self.assertEqual(told(self, led_to, LOST, ("first", "last")), ((("first", "go"),), True))

    def test_where_rounds_are_done_ahead_of_the_next_one(self):
        # The END is not there as soon as someone is at `last`; and x is not OPEN until b has come by y.
        text = "parties a b\nround first a a b\nresult go a x b y\nround y b b\nresult on b x\nround x a a b\n"
        text = text + "result on a last b z\nresult to a x b x\nround z b b\nresult on b last\nround last a a b"
        dealing = read_dealing(text)
        self.assertEqual(told(self, led_to, dealing, ("first", "x")), ((("first", "go"), ("y", "on")), True))
        deeds = (("first", "go"), ("y", "on"), ("x", "to"), ("x", "on"), ("z", "on"))
        self.assertEqual(told(self, led_to, dealing, ("first", "x", "x", "last")), (deeds, True))

    def test_the_least_result_counts_by_whichever_party(self):
        text = "parties a b\nround first a a b\nresult k a last b last\nresult m a x b x\nresult l a last b y\n"
        text = text + "result n a x b y\nround x b a b\nresult on a last b last\nround y b b\nresult on b x\nround last a a b"
        dealing = read_dealing(text)
        self.assertEqual(told(self, led_to, dealing, ("first", "x"))[0][:1], (("first", "m"),))
        self.assertEqual(told(self, led_to, dealing, ("first", "y"))[0][:1], (("first", "l"),))
        self.assertEqual(told(self, led_to, dealing, ("first", "y", "x")), ((("first", "l"), ("y", "on")), False))

    def test_all_short_ways_against_a_plain_search(self):
        counts = [0, 0]
        for dealing in [BESIDE, RINGS] + many_dealings(100):
            steps = plain_steps(dealing)
            ways = [("first",)]
            for way in ways:
                if len(way) < 5:
                    ways += [way + (there,) for there in sorted(steps[way[-1]])]
            for way in ways[:150]:
                found = told(self, led_to, dealing, way)
                self.assertEqual(found, plain_led_to(dealing, way))
                self.assertIs(type(found[1]), bool)
                counts[found[1]] += 1
        self.assertGreater(min(counts), 200)

    def test_in_a_sound_dealing_each_way_is_led(self):
        for dealing in list(FIXED) + many_dealings(100):
            if plain_is_sound(dealing):
                steps = plain_steps(dealing)
                ways = [("first",)]
                for way in ways:
                    if len(way) < 5:
                        ways += [way + (there,) for there in sorted(steps[way[-1]])]
                for way in ways[:100]:
                    deeds, is_open = led_to(dealing, way)
                    self.assertIs(is_open, True)
                    places = dict(plain_behind(dealing, deeds))
                    self.assertEqual({places[party] for party in plain_lots(dealing)[way[-1]]}, {way[-1]})


if __name__ == "__main__":
    unittest.main()
