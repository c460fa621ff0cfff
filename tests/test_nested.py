"""[38]: DEALINGS within DEALINGS, parties that follow others, and DEALINGS without a party."""

import unittest

from partedmeet.dealings import all_deeds, lot_of, made_dealing, nexts_of, rounds_of, with_result, with_round
from partedmeet.dealingtexts import read_dealing
from partedmeet.errors import NoParty, NoRound, Nothing, Used
from partedmeet.forms import is_dealing
from partedmeet.nested import followed, put_in, without_party
from partedmeet.sound import is_sound
from tests.helper import ALONE, BOTH, CROSS, LOST, PLAIN, SALE, STUCK, Dice, many_dealings, plain_is_sound, plain_led
from tests.helper import plain_lots, plain_nexts, raised, told
from tests.more import IDLE, LOOPS
from tests.plain import great_dealing

TALK = read_dealing(
    "parties a b\nround first b a b\nresult no a last b last\nresult talk a x b last\nround x a a\nresult done a last\n"
    "round last a a b"
)
NAMES = {"x": "think", "first": "meet"}


def renamed(dealing, names):
    """the DEALING with other names for its parties; the lots may come in another order then"""
    rounds = []
    for name, lot, chooser, results in dealing[1]:
        told_of = [(word, [(names[party], there) for party, there in nexts]) for word, nexts in results]
        rounds.append((name, [names[party] for party in lot], names[chooser], told_of))
    return made_dealing([names[party] for party in dealing[0]], rounds)


def plain_put_in(dealing, name, word, inner, names):
    """by the words of [38], all in dicts"""
    nexts, inside = plain_nexts(dealing), plain_nexts(inner)
    ends = nexts[(name, word)]
    nexts[(name, word)] = {party: names["first"] for party in ends}
    for (at, told_word), places in inside.items():
        new = {party: ends[party] if there == "last" else names[there] for party, there in places.items()}
        nexts[(names[at], told_word)] = new
    lots = {part[0]: part[1:3] for part in dealing[1]}
    lots.update({names[part[0]]: part[1:3] for part in inner[1] if part[0] != "last"})
    rounds = []
    for at in lots:
        results = [(told_word, list(nexts[(there, told_word)].items())) for there, told_word in nexts if there == at]
        rounds.append((at, *lots[at], results))
    return made_dealing(dealing[0], rounds)


def inner_for(lot, seed):
    """a DEALING, SOUND or not, whose parties are a lot of at most three"""
    found = [dealing for dealing in many_dealings(40) if len(dealing[0]) == len(lot)]
    dealing = found[seed % len(found)]
    return renamed(dealing, dict(zip(dealing[0], lot)))


class PutIn(unittest.TestCase):
    def test_known_ones(self):
        wide = told(self, put_in, BOTH, "left", "on", TALK, NAMES)
        self.assertEqual(rounds_of(wide), ("first", "last", "left", "meet", "right", "think"))
        self.assertEqual(nexts_of(wide, "left", "on"), {"a": "meet", "b": "meet"})
        self.assertEqual(nexts_of(wide, "left", "over"), {"a": "left", "b": "left"})
        self.assertEqual(nexts_of(wide, "meet", "talk"), {"a": "think", "b": "last"})
        self.assertEqual(wide[1][3], ("meet", ("a", "b"), "b", (("no", (("a", "last"), ("b", "last"))), ("talk", (("a", "think"), ("b", "last"))))))
        self.assertIs(is_sound(wide), True)

    def test_where_it_was_told_as_next_it_goes_on(self):
        # By `over` both come to `left` again: so from the inner one, too, each by its own end.
        wide = told(self, put_in, BOTH, "left", "over", TALK, NAMES)
        self.assertEqual(nexts_of(wide, "meet", "talk"), {"a": "think", "b": "left"})
        self.assertEqual(nexts_of(wide, "think", "done"), {"a": "left"})
        three = renamed(BOTH, {"a": "bank", "b": "buyer", "c": "seller"})
        wide = told(self, put_in, SALE, "first", "ask", three, {"first": "f", "left": "l", "right": "r"})
        self.assertEqual(nexts_of(wide, "first", "ask"), {"bank": "f", "buyer": "f", "seller": "f"})
        self.assertEqual(nexts_of(wide, "l", "on"), {"bank": "loan", "buyer": "loan"})
        self.assertEqual(nexts_of(wide, "r", "on"), {"seller": "deal"})

    def test_one_party_and_no_rounds(self):
        wide = told(self, put_in, ALONE, "first", "go", ALONE, {"first": "x"})
        self.assertEqual(wide, read_dealing("parties p\nround first p p\nresult go p x\nround x p p\nresult go p last\nround last p p"))
        inner = read_dealing("parties c\nround first c c\nresult up c first\nresult out c last\nround last c c")
        wide = told(self, put_in, BOTH, "right", "on", inner, {"first": "again"})
        self.assertEqual(nexts_of(wide, "again", "up"), {"c": "again"})
        self.assertEqual(nexts_of(wide, "again", "out"), {"c": "last"})

    def test_faults_come_in_order(self):
        used = {"first": "right", "x": "right"}
        self.assertEqual(raised(self, NoRound, put_in, BOTH, "none", "none", TALK, used), {"name": "none"})
        self.assertEqual(raised(self, Nothing, put_in, BOTH, "left", "none", TALK, used), {})
        self.assertEqual(raised(self, Nothing, put_in, BOTH, "last", "on", TALK, used), {})
        self.assertEqual(raised(self, NoRound, put_in, ALONE, "left", "go", TALK, NAMES), {"name": "left"})

    def test_used_names(self):
        for names, wanted in (
            ({"first": "right", "x": "think"}, "right"), ({"first": "meet", "x": "first"}, "first"),
            ({"first": "last", "x": "left"}, "last"), ({"first": "same", "x": "same"}, "same"),
            ({"first": "left", "x": "left"}, "left"), ({"x": "left", "first": "right"}, "left"),
        ):
            self.assertEqual(raised(self, Used, put_in, BOTH, "left", "on", TALK, names), {"name": wanted})
        three = renamed(BOTH, {"a": "bank", "b": "buyer", "c": "seller"})
        for names, wanted in (
            ({"first": "z", "left": "z", "right": "deal"}, "deal"), ({"first": "d", "left": "d", "right": "deal"}, "d"),
            ({"first": "f", "left": "loan", "right": "loan"}, "loan"), ({"first": "e", "left": "e", "right": "e"}, "e"),
        ):
            self.assertEqual(raised(self, Used, put_in, SALE, "first", "ask", three, names), {"name": wanted})
        # The names of the inner one are free, and so are those of parties and words.
        for names in ({"first": "x", "x": "a"}, {"first": "on", "x": "go"}):
            self.assertIs(is_dealing(told(self, put_in, BOTH, "left", "on", TALK, names)), True)

    def test_sound_exactly_if_both_are(self):
        counts = {}
        for seed, dealing in enumerate([LOOPS, BOTH] + many_dealings(220)):
            dice = Dice(seed)
            names = plain_led(dealing)
            name, word = dice.pick([deed for deed in all_deeds(dealing) if deed[0] in names])
            inner = inner_for(lot_of(dealing, name), seed)
            new = {at: at + "in" for at in rounds_of(inner) if at != "last"}
            wide = told(self, put_in, dealing, name, word, inner, new)
            self.assertEqual(wide, plain_put_in(dealing, name, word, inner, new))
            self.assertTrue(is_dealing(wide))
            both = (plain_is_sound(dealing), plain_is_sound(inner))
            counts[both] = counts.get(both, 0) + 1
            self.assertIs(plain_is_sound(wide), all(both))
            self.assertIs(is_sound(wide), all(both))
        self.assertEqual(len(counts), 4)
        self.assertGreater(min(counts.values()), 10)

    def test_in_a_round_that_is_not_led_all_is_left_as_it_was(self):
        for inner, is_right in ((ALONE, True), (read_dealing("parties p\nround first p p\nresult on p first\nround last p p"), False)):
            wide = told(self, put_in, IDLE, "side", "on", renamed(inner, {"p": "c"}), {"first": "x"})
            self.assertEqual(rounds_of(wide), ("first", "last", "left", "lone", "side", "x"))
            self.assertEqual(nexts_of(wide, "x", "go" if is_right else "on"), {"c": "side" if is_right else "x"})
            self.assertIs(is_sound(inner), is_right)
            self.assertIs(is_sound(wide), True)

    def test_inner_rounds_that_are_not_led_come_too(self):
        wide = told(self, put_in, BOTH, "left", "on", STUCK, {"first": "f", "x": "stuck", "far": "away"})
        self.assertEqual(rounds_of(wide), ("away", "f", "first", "last", "left", "right", "stuck"))
        self.assertIs(is_sound(wide), False)

    def test_more_than_24_rounds(self):
        dealing = great_dealing(2)
        name = [part[0] for part in dealing[1] if len(part[1]) == 3 and part[0] != "last"][0]
        word = all_deeds(dealing)[[deed[0] for deed in all_deeds(dealing)].index(name)][1]
        inner = renamed(dealing, dict(zip(dealing[0], lot_of(dealing, name))))
        wide = told(self, put_in, dealing, name, word, inner, {at: at + "in" for at in rounds_of(inner) if at != "last"})
        self.assertEqual(len(wide[1]), 47)
        self.assertIs(is_sound(wide), True)


class Followed(unittest.TestCase):
    def test_known_ones(self):
        more = told(self, followed, BOTH, "c", "guest")
        self.assertEqual(nexts_of(more, "first", "go"), {"a": "left", "b": "left", "c": "right", "guest": "right"})
        self.assertEqual(nexts_of(more, "right", "on"), {"c": "last", "guest": "last"})
        self.assertEqual([part[:3] for part in more[1]], [
            ("first", ("a", "b", "c", "guest"), "a"), ("last", ("a", "b", "c", "guest"), "a"), ("left", ("a", "b"), "a"),
            ("right", ("c", "guest"), "c"),
        ])
        # A party that comes ahead of all others: it is no chooser.
        more = told(self, followed, ALONE, "p", "a")
        self.assertEqual(more, read_dealing("parties a p\nround first p a p\nresult go a last p last\nround last p a p"))

    def test_faults_come_in_order(self):
        self.assertEqual(raised(self, NoParty, followed, BOTH, "d", "a"), {"name": "d"})
        self.assertEqual(raised(self, NoParty, followed, BOTH, "d", "d"), {"name": "d"})
        for party in "abc":
            self.assertEqual(raised(self, Used, followed, BOTH, "c", party), {"name": party})
        # A round or a word may be called so.
        for name in ("left", "first", "go"):
            self.assertIn(name, told(self, followed, BOTH, "a", name)[0])

    def test_sound_exactly_if_the_dealing_is(self):
        for seed, dealing in enumerate([LOOPS, IDLE, CROSS, LOST] + many_dealings(150)):
            dice = Dice(seed)
            party, name = dice.pick(dealing[0]), dice.pick(["aa", "bb", "zz"])
            more = told(self, followed, dealing, party, name)
            self.assertTrue(is_dealing(more))
            for (at, word), places in plain_nexts(more).items():
                wanted = plain_nexts(dealing)[(at, word)]
                self.assertEqual(places, {**wanted, name: wanted[party]} if party in wanted else wanted)
            self.assertEqual([part[2] for part in more[1]], [part[2] for part in dealing[1]])
            self.assertIs(is_sound(more), plain_is_sound(dealing))
            self.assertIs(plain_is_sound(more), plain_is_sound(dealing))
            # Whatever was chooser stays so: so without it all is as it was.
            self.assertEqual(told(self, without_party, more, name), dealing)

    def test_beyond_8_parties(self):
        self.assertEqual(len(told(self, followed, great_dealing(7), "a", "nine")[0]), 9)


class WithoutParty(unittest.TestCase):
    def test_known_ones(self):
        less = told(self, without_party, BOTH, "c")
        self.assertEqual(rounds_of(less), ("first", "last", "left"))
        self.assertEqual(nexts_of(less, "first", "go"), {"a": "left", "b": "left"})
        less = told(self, without_party, BOTH, "a")
        self.assertEqual([part[:3] for part in less[1]], [
            ("first", ("b", "c"), "b"), ("last", ("b", "c"), "b"), ("left", ("b",), "b"), ("right", ("c",), "c"),
        ])
        less = told(self, without_party, SALE, "buyer")
        self.assertEqual([part[2] for part in less[1]], ["seller", "bank", "bank", "bank"])
        self.assertEqual(told(self, without_party, PLAIN, "a"), read_dealing("parties b\nround first b b\nresult go b last\nround last b b"))
        self.assertEqual([part[2] for part in told(self, without_party, PLAIN, "b")[1]], ["a", "a"])

    def test_faults_come_in_order(self):
        self.assertEqual(raised(self, NoParty, without_party, BOTH, "d"), {"name": "d"})
        self.assertEqual(raised(self, NoParty, without_party, ALONE, "d"), {"name": "d"})
        self.assertEqual(raised(self, Nothing, without_party, ALONE, "p"), {})

    def test_against_a_plain_one(self):
        many = 0
        for seed, dealing in enumerate([LOOPS, IDLE, CROSS, LOST] + many_dealings(150)):
            for party in dealing[0] if len(dealing[0]) > 1 else ():
                less = told(self, without_party, dealing, party)
                self.assertTrue(is_dealing(less))
                lots = {name: tuple(other for other in lot if other != party) for name, lot in plain_lots(dealing).items()}
                self.assertEqual(plain_lots(less), {name: lots[name] for name in lots if lots[name]})
                wanted = {}
                for (name, word), places in plain_nexts(dealing).items():
                    if lots[name]:
                        wanted[(name, word)] = {other: there for other, there in places.items() if other != party}
                self.assertEqual(plain_nexts(less), wanted)
                for name, _, chooser, _ in dealing[1]:
                    if lots[name]:
                        there = [part[2] for part in less[1] if part[0] == name][0]
                        self.assertEqual(there, chooser if chooser != party else min(lots[name]))
                many += 1
        self.assertGreater(many, 100)

    def test_a_round_that_many_want_stays(self):
        part = ("pair", ["a", "b"], "b", [("on", [("a", "last"), ("b", "last")])])
        dealing = with_result(with_round(BOTH, part), "left", "up", {"a": "pair", "b": "pair"})
        self.assertEqual(lot_of(told(self, without_party, dealing, "b"), "pair"), ("a",))
        twice = without_party(without_party(dealing, "b"), "a")
        self.assertEqual(rounds_of(twice), ("first", "last", "right"))


if __name__ == "__main__":
    unittest.main()
