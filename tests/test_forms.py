"""[12]: what tells of any value whether it is what its name says."""

import unittest

from partedmeet.errors import Nothing
from partedmeet.forms import (
    are_deeds,
    is_dealing,
    is_deed,
    is_fraction,
    is_integer,
    is_lot,
    is_name,
    is_standing,
    reduced,
)
from partedmeet.standings import end_standing, first_standing
from tests.helper import ALONE, BOTH, FIXED, OTHER_KINDS, PLAIN, SALE, STUCK, told, variants


def plain_is_name(thing):
    return type(thing) is str and len(thing) in range(1, 13) and set(thing) <= set("abcdefghijklmnopqrstuvwxyz")


def plain_are_names(thing):
    return (
        type(thing) is tuple
        and len(thing) > 0
        and all(plain_is_name(part) for part in thing)
        and list(thing) == sorted(set(thing))
    )


def plain_is_dealing(thing):
    """[2], word for word; what has another form fails somewhere on the way"""
    try:
        parties, rounds = thing
        assert type(thing) is tuple and type(rounds) is tuple and plain_are_names(parties)
        lots = {}
        for part in rounds:
            name, lot, chooser, results = part
            assert type(part) is tuple and plain_is_name(name) and plain_are_names(lot)
            assert set(lot) <= set(parties) and type(chooser) is str and chooser in lot
            assert type(results) is tuple and name not in lots
            lots[name] = lot
        assert list(lots) == sorted(lots) and lots["first"] == lots["last"] == parties
        for name, lot, chooser, results in rounds:
            assert (name == "last") == (results == ())
            words = []
            for result in results:
                word, nexts = result
                assert type(result) is tuple and plain_is_name(word) and type(nexts) is tuple
                words.append(word)
                for pair in nexts:
                    party, there = pair
                    assert type(pair) is tuple and type(party) is str and type(there) is str and party in lots[there]
                assert tuple(pair[0] for pair in nexts) == lot
            assert words == sorted(set(words))
        return True
    except (AssertionError, TypeError, ValueError, KeyError):
        return False


def plain_is_standing(dealing, thing):
    try:
        lots = {part[0]: part[1] for part in dealing[1]}
        assert type(thing) is tuple
        for pair in thing:
            party, at = pair
            assert type(pair) is tuple and type(party) is str and type(at) is str and party in lots[at]
        return tuple(pair[0] for pair in thing) == dealing[0]
    except (AssertionError, TypeError, ValueError, KeyError):
        return False


class Forms(unittest.TestCase):
    def check(self, wanted, function, *arguments):
        self.assertIs(told(self, function, *arguments), wanted, arguments)

    def test_integers(self):
        for thing in (0, 1, -1, 10 ** 39, -(10 ** 39)):
            self.check(True, is_integer, thing)
        for thing in (True, False, None, "1", (), [], {}, (1,), Nothing()):
            self.check(False, is_integer, thing)

    def test_names(self):
        for thing in ("a", "z", "bank", "abcdefghijkl", "z" * 12, "first"):
            self.check(True, is_name, thing)
        for thing in ("", "a" * 13, "Bank", "a b", "a1", "a\n", "\na", " ", "a-b", "~", "`", "{", "a" * 9000):
            self.check(False, is_name, thing)
        for thing in (None, True, 1, ("a",), ["a"], {"a": "a"}, (), b"a", Nothing()):
            self.check(False, is_name, thing)

    def test_fractions(self):
        for thing in ((0, 1), (1, 1), (-1, 2), (5, 3), (10 ** 39, 7), (-6, 35)):
            self.check(True, is_fraction, thing)
        for thing in ((2, 4), (0, 2), (1, 0), (0, 0), (1, -2), (-1, -2), (0, -1), (-2, 4)):
            self.check(False, is_fraction, thing)
        for thing in ((True, 2), (1, True), (False, 1), (0, True), [1, 2], (1,), (1, 2, 3), ("1", 2), (1, None), 1, None):
            self.check(False, is_fraction, thing)

    def test_reduced(self):
        for num in range(-30, 31):
            for den in range(-30, 31):
                if den != 0:
                    found = reduced(num, den)
                    self.assertTrue(is_fraction(found))
                    self.assertEqual(found[0] * den, num * found[1])
        self.assertEqual(told(self, reduced, 6, -4), (-3, 2))
        self.assertEqual(told(self, reduced, 0, -7), (0, 1))
        self.assertEqual(told(self, reduced, 10 ** 39, 10 ** 38), (10, 1))

    def test_deeds(self):
        self.check(True, is_deed, ("first", "go"))
        self.check(True, is_deed, ("a", "z" * 12))
        for thing in variants(("first", "go")):
            wanted = type(thing) is tuple and len(thing) == 2 and all(plain_is_name(part) for part in thing)
            self.check(wanted, is_deed, thing)
        self.check(True, are_deeds, ())
        self.check(True, are_deeds, (("first", "go"), ("first", "go")))
        for thing in variants((("first", "go"), ("x", "y"))):
            wanted = type(thing) is tuple and all(is_deed(part) for part in thing)
            self.check(wanted, are_deeds, thing)

    def test_lots(self):
        for thing in (("a",), ("c",), ("a", "b"), ("a", "c"), ("a", "b", "c")):
            self.check(True, is_lot, BOTH, thing)
        for thing in ((), ("b", "a"), ("a", "a"), ("d",), ("a", "d"), ["a"], "a", "ab", None, ("a", None), (("a",),)):
            self.check(False, is_lot, BOTH, thing)
        for thing in variants(("a", "c")):
            wanted = plain_are_names(thing) and set(thing) <= {"a", "b", "c"}
            self.check(wanted, is_lot, BOTH, thing)

    def test_standings(self):
        for dealing in FIXED:
            self.check(True, is_standing, dealing, first_standing(dealing))
            self.check(True, is_standing, dealing, end_standing(dealing))
            for thing in variants(end_standing(dealing)):
                self.check(plain_is_standing(dealing, thing), is_standing, dealing, thing)
        self.check(True, is_standing, BOTH, (("a", "left"), ("b", "last"), ("c", "right")))
        self.check(False, is_standing, BOTH, (("a", "right"), ("b", "last"), ("c", "right")))
        self.check(False, is_standing, BOTH, (("a", "left"), ("c", "right"), ("b", "last")))
        self.check(False, is_standing, BOTH, (("a", "left"), ("b", "last"), ("c", "right"), ("d", "last")))
        self.check(False, is_standing, BOTH, ())
        self.check(False, is_standing, BOTH, BOTH)

    def test_dealings(self):
        for dealing in FIXED:
            self.check(True, is_dealing, dealing)
        for thing in OTHER_KINDS + (((), ()), (("a",), ()), first_standing(BOTH), Nothing()):
            self.check(False, is_dealing, thing)

    def test_variants_of_dealings(self):
        for dealing in (PLAIN, ALONE, STUCK):
            counts = [0, 0]
            for thing in variants(dealing):
                wanted = plain_is_dealing(thing)
                counts[wanted] += 1
                self.assertIs(is_dealing(thing), wanted, thing)
            self.assertGreater(counts[0], 500)
            self.assertGreater(counts[1], 0)

    def test_names_of_other_lengths_in_dealings(self):
        for letters, wanted in ((1, True), (12, True), (13, False), (0, False)):
            name = "m" * letters
            both = (("m", "last"),)
            for dealing in (
                (("m",), tuple(sorted([("first", ("m",), "m", ((name, both),)), ("last", ("m",), "m", ())]))),
                ((name,), (("first", (name,), name, (("go", ((name, "last"),)),)), ("last", (name,), name, ()))),
                (
                    ("m",),
                    tuple(
                        sorted(
                            [
                                ("first", ("m",), "m", (("go", (("m", name),)),)),
                                ("last", ("m",), "m", ()),
                                (name, ("m",), "m", (("go", both),)),
                            ]
                        )
                    ),
                ),
            ):
                self.check(wanted, is_dealing, dealing)

    def test_bounds_are_not_looked_at(self):
        parties = tuple(sorted("p" + letter for letter in "abcdefghijklmnop"))
        nexts = tuple((party, "last") for party in parties)
        words = tuple((word, nexts) for word in "abcdefghijklmnopqrstuvwxyz")
        rounds = [("last", parties, "pa", ())]
        rounds += [(name, parties, "pa", words) for name in ["first"] + [one + two for one in "abcd" for two in "abcdefghij"]]
        self.check(True, is_dealing, (parties, tuple(sorted(rounds))))

    def test_faults_of_dealings_one_by_one(self):
        parties, rounds = SALE
        deal, first, last, loan = rounds
        for changed in (
            (parties, (deal, last, loan)),
            (parties, (deal, first, loan)),
            (parties, (first, deal, last, loan)),
            (parties, (deal, deal, first, last, loan)),
            (parties, (deal, first, last[:3] + (first[3],), loan)),
            (parties, (deal, first, last, loan[:3] + ((),))),
            (parties, (deal, first, last, loan[:2] + ("seller",) + loan[3:])),
            (parties, (deal, first, last, loan[:1] + (("bank", "buyer", "seller"),) + loan[2:])),
            (parties, (deal, first, ("last", ("bank", "buyer"), "bank", ()), loan)),
            (parties, (deal, first[:3] + (first[3][::-1],), last, loan)),
            (parties, (deal[:3] + (deal[3] + deal[3][1:],), first, last, loan)),
            (parties[::-1], rounds),
            (parties + ("zoo",), rounds),
            (parties, (deal, first, last, loan[:3] + ((("grant", (("bank", "deal"), ("buyer", "deal"))),),))),
            (parties, (deal, first, last, loan[:3] + ((("grant", (("bank", "loans"), ("buyer", "deal"))),),))),
            (parties, (deal, first, last, loan[:3] + ((("grant", (("buyer", "deal"), ("bank", "last"))),),))),
            (parties, (deal, first, last, loan[:3] + ((("grant", (("bank", "last"),)),),))),
        ):
            self.assertFalse(plain_is_dealing(changed))
            self.check(False, is_dealing, changed)

    def test_faults_that_no_other_one_comes_with(self):
        both = ("a", "b")
        stay = ("first", both, "a", (("go", (("a", "first"), ("b", "first"))),))
        end = ("last", both, "a", ())
        self.check(True, is_dealing, (both, (stay, end)))
        guest = ("x", ("a", "guest"), "a", (("on", (("a", "last"), ("guest", "x"))),))
        for rounds in (
            (stay, end, guest),
            (stay,),
            (stay, ("last", ("a",), "a", ())),
            (end, ("x", both, "a", (("on", (("a", "x"), ("b", "last"))),))),
            (("first", ("b",), "b", (("go", (("b", "last"),)),)), end),
            (stay, end, ("x", ("a",), "b", (("on", (("a", "last"),)),))),
            (stay, end, ("x", ("a",), "guest", (("on", (("a", "last"),)),))),
        ):
            self.assertFalse(plain_is_dealing((both, rounds)))
            self.check(False, is_dealing, (both, rounds))


if __name__ == "__main__":
    unittest.main()
