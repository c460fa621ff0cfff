"""[36], and what [9] says of it: ALIKE rounds, and LEAST FORMS."""

import unittest

from partedmeet.dealings import made_dealing, rounds_of, with_result, with_round
from partedmeet.dealingtexts import read_dealing
from partedmeet.forms import is_dealing
from partedmeet.leastforms import alike_classes, are_alike, is_least, least_form
from partedmeet.sound import is_sound
from tests.helper import ALONE, BOTH, PLAIN, SALE, many_dealings, plain_is_sound, plain_led, plain_nexts, told
from tests.more import IDLE, LOOPS, as_dice, doubled, faced, plain_parting, row_of, swapped
from tests.plain import great_dealing

LOT = ("p", "q")
TO = {name: (("p", name), ("q", name)) for name in ("x", "y", "a", "last", "first")}
END = ("last", LOT, "p", ())
GO = ("first", LOT, "p", (("go", TO["x"]),))
LONG = (LOT, (GO, END, ("x", LOT, "q", (("no", TO["y"]), ("yes", TO["last"]))), ("y", LOT, "q", (("no", TO["x"]), ("yes", TO["last"])))))
SHORT = (LOT, (("a", LOT, "q", (("no", TO["a"]), ("yes", TO["last"]))), ("first", LOT, "p", (("go", TO["a"]),)), END))


def signs(dealing):
    """the dict from rounds to what ALIKE ones have in common: lot, chooser, words"""
    return {name: (lot, chooser, [word for word, _ in results]) for name, lot, chooser, results in dealing[1]}


def plain_alike(dealing):
    """the classes, by the words of [36]: couples are taken away as long as some are not ALIKE by the others"""
    names, nexts, told_of = plain_led(dealing), plain_nexts(dealing), signs(dealing)
    couples = {(one, other) for one in names for other in names if told_of[one] == told_of[other]}
    while True:
        left = set()
        for one, other in couples:
            sides = [(nexts[(one, word)], nexts[(other, word)]) for word in told_of[one][2]]
            if all((places[party], facing[party]) in couples for places, facing in sides for party in places):
                left.add((one, other))
        if left == couples:
            return tuple(sorted({tuple(other for other in names if (one, other) in couples) for one in names}))
        couples = left


def plain_least_form(dealing):
    """the LEAST FORM by its words, from plain_alike"""
    nexts, told_of = plain_nexts(dealing), signs(dealing)
    classes = {name: names for names in plain_alike(dealing) for name in names}
    order = ["first"]
    for name in order:
        for word in told_of[name][2]:
            for party in told_of[name][0]:
                there = nexts[(name, word)][party]
                if classes[there] not in [classes[other] for other in order]:
                    order.append(there)
    inner = [classes[name] for name in order if name not in ("first", "last")]
    names = {classes["first"]: "first", classes["last"]: "last", **dict(zip(inner, "abcdefghijklmnopqrstuvwxyz"))}
    rounds = []
    for name in order:
        results = []
        for word in told_of[name][2]:
            results.append((word, [(party, names[classes[there]]) for party, there in nexts[(name, word)].items()]))
        rounds.append((names[classes[name]], told_of[name][0], told_of[name][1], results))
    return made_dealing(dealing[0], rounds)


class LeastForms(unittest.TestCase):
    def check(self, dealing):
        """checks everything of one DEALING against plain searches, and returns whether it is least"""
        classes = told(self, alike_classes, dealing)
        self.assertEqual(classes, plain_alike(dealing))
        form = told(self, least_form, dealing)
        self.assertEqual(form, plain_least_form(dealing))
        self.assertTrue(is_dealing(form) and is_sound(form))
        self.assertEqual(len(form[1]), len(classes))
        self.assertIs(told(self, is_least, form), True)
        self.assertEqual(least_form(form), form)
        self.assertIs(told(self, are_alike, dealing, form), True)
        is_each_alone = list(rounds_of(dealing)) == plain_led(dealing) and all(len(names) == 1 for names in classes)
        self.assertIs(told(self, is_least, dealing), is_each_alone)
        return is_each_alone

    def test_long_and_short(self):
        self.assertEqual(told(self, alike_classes, LONG), (("first",), ("last",), ("x", "y")))
        self.assertEqual(told(self, least_form, LONG), SHORT)
        self.assertIs(told(self, is_least, LONG), False)
        self.assertIs(told(self, is_least, SHORT), True)
        self.assertIs(told(self, are_alike, LONG, SHORT), True)
        self.assertIs(told(self, are_alike, SHORT, LONG), True)

    def test_known_ones(self):
        for dealing in (ALONE, PLAIN):
            self.assertEqual(told(self, alike_classes, dealing), (("first",), ("last",)))
            self.assertEqual(told(self, least_form, dealing), dealing)
        self.assertEqual(told(self, alike_classes, SALE), (("deal",), ("first",), ("last",), ("loan",)))
        wanted = (
            ("a", ("bank", "buyer"), "bank"), ("b", ("buyer", "seller"), "seller"),
            ("first", ("bank", "buyer", "seller"), "buyer"), ("last", ("bank", "buyer", "seller"), "bank"),
        )
        self.assertEqual(tuple(part[:3] for part in told(self, least_form, SALE)[1]), wanted)
        for dealing in (BOTH, SALE, PLAIN, ALONE, LOOPS):
            self.assertIs(self.check(dealing), True)
        self.assertIs(self.check(IDLE), False)

    def test_names_come_word_by_word_and_party_by_party(self):
        # By k come z, then y, by l x; from z then w.
        dealing = read_dealing(
            "parties p q\nround first p p q\nresult l p x q x\nresult k p z q y\nround z p p\nresult on p w\n"
            "round y q q\nresult on q last\nround x p p q\nresult on p last q last\nround w p p\nresult off p last\n"
            "round last p p q"
        )
        wanted = read_dealing(
            "parties p q\nround first p p q\nresult l p c q c\nresult k p a q b\nround a p p\nresult on p d\n"
            "round b q q\nresult on q last\nround c p p q\nresult on p last q last\nround d p p\nresult off p last\n"
            "round last p p q"
        )
        self.assertEqual(told(self, least_form, dealing), wanted)

    def test_what_makes_rounds_unlike(self):
        left = ("x", LOT, "p", (("on", TO["last"]),))
        first = ("first", LOT, "p", (("k", TO["x"]), ("l", TO["y"])))
        for right, is_alike in (
            (("y", LOT, "p", (("on", TO["last"]),)), True),
            (("y", LOT, "q", (("on", TO["last"]),)), False),
            (("y", LOT, "p", (("off", TO["last"]),)), False),
            (("y", LOT, "p", (("off", TO["last"]), ("on", TO["last"]))), False),
            (("y", LOT, "p", (("on", TO["x"]),)), False),
            (("y", LOT, "p", (("on", TO["first"]),)), False),
        ):
            dealing = (LOT, (first, END, left, right))
            self.assertIs(told(self, alike_classes, dealing) == (("first",), ("last",), ("x", "y")), is_alike)
            self.check(dealing)
        # Of y only one party goes where both go from x, by way of a round that the other one does not know.
        alone = ("z", ("p",), "p", (("on", (("p", "last"),)),))
        dealing = (LOT, (first, END, left, ("y", LOT, "p", (("on", (("p", "z"), ("q", "last"))),)), alone))
        self.assertEqual(len(told(self, alike_classes, dealing)), 5)

    def test_lots_of_as_many_others_are_unlike(self):
        dealing = read_dealing(
            "parties a b c\nround first a a b c\nresult k a x b x c last\nresult l a y b last c y\nround x a a b\n"
            "result on a last b last\nround y a a c\nresult on a last c last\nround last a a b c"
        )
        self.assertIs(self.check(dealing), True)

    def test_first_may_be_alike_another_one(self):
        dealing = (LOT, (("first", LOT, "p", (("go", TO["x"]), ("no", TO["last"]))), END, ("x", LOT, "p", (("go", TO["first"]), ("no", TO["last"])))))
        self.assertEqual(told(self, alike_classes, dealing), (("first", "x"), ("last",)))
        form = (LOT, (("first", LOT, "p", (("go", TO["first"]), ("no", TO["last"]))), END))
        self.assertEqual(told(self, least_form, dealing), form)
        self.assertIs(told(self, are_alike, dealing, form), True)

    def test_rounds_that_are_not_led(self):
        self.assertEqual(told(self, alike_classes, IDLE), (("first",), ("last",), ("left",)))
        self.assertEqual(rounds_of(told(self, least_form, IDLE)), ("a", "first", "last"))
        self.assertIs(told(self, is_least, IDLE), False)
        # One that is not LED, but like one that is, does not count.
        dealing = with_round(PLAIN, ("zz", "ab", "b", [("go", [("a", "last"), ("b", "last")])]))
        self.assertEqual(told(self, alike_classes, dealing), (("first",), ("last",)))
        self.assertIs(told(self, is_least, dealing), False)
        self.assertEqual(told(self, least_form, dealing), PLAIN)

    def test_more_than_26_classes(self):
        names = ["r" + one + other for one in "ab" for other in "abcdefghijklmnopqrstuvwxyz"][:28]
        form = told(self, least_form, row_of(names[::-1]))
        letters = list("abcdefghijklmnopqrstuvwxyz") + ["aa", "ab"]
        self.assertEqual(rounds_of(form), tuple(sorted(letters + ["first", "last"])))
        nexts = {name: results[0][1][0][1] for name, _, _, results in form[1] if results}
        self.assertEqual(nexts, dict(zip(["first"] + letters, letters + ["last"])))

    def test_a_row_that_is_parted_at_its_end_alone(self):
        # Twenty rounds in a row, all with one word: just how far it is from each to `last` tells them apart.
        names = ["r" + letter for letter in "abcdefghijklmnopqrst"]
        self.assertEqual(len(told(self, alike_classes, row_of(names))), 22)
        self.assertIs(is_least(row_of(names)), True)

    def test_against_plain_searches(self):
        counts = [0, 0]
        for seed, dealing in enumerate(many_dealings(260)):
            if plain_is_sound(dealing):
                counts[self.check(dealing)] += 1
        self.assertGreater(min(counts), 10)

    def test_rounds_doubled_and_names_changed(self):
        many = 0
        for seed, dealing in enumerate([LOOPS, BOTH, SALE] + many_dealings(200)):
            if plain_is_sound(dealing):
                self.assertEqual(told(self, least_form, swapped(dealing, as_dice(seed))), least_form(dealing))
                more = doubled(dealing, as_dice(seed))
                if more is not None:
                    self.assertTrue(plain_is_sound(more))
                    self.assertIs(told(self, is_least, more), False)
                    self.assertEqual(least_form(more), least_form(dealing))
                    self.assertIs(told(self, are_alike, dealing, more), True)
                    many += 1
        self.assertGreater(many, 20)

    def test_alike_exactly_if_the_traces_are_the_same(self):
        counts = [0, 0]
        for seed, dealing in enumerate([LOOPS, BOTH, SALE] + many_dealings(300)):
            other = faced(dealing, as_dice(seed), seed // 2) if plain_is_sound(dealing) else None
            if other is not None:
                is_same = plain_parting(dealing, other)[0] is None
                counts[is_same] += 1
                self.assertIs(told(self, are_alike, dealing, other), is_same)
        self.assertGreater(min(counts), 15)

    def test_great_ones(self):
        for seed in range(16):
            dealing = great_dealing(seed)
            form = told(self, least_form, dealing)
            self.assertIs(are_alike(dealing, form), True)
            self.assertIs(is_least(form), True)
            self.assertIs(are_alike(dealing, swapped(dealing, as_dice(seed))), True)
            self.assertIs(are_alike(dealing, doubled(dealing, as_dice(seed)) or dealing), True)
            name, _, _, results = dealing[1][-1]
            other = with_result(dealing, name, "other", dict(results[0][1]))
            self.assertIs(are_alike(dealing, other), False)


if __name__ == "__main__":
    unittest.main()
