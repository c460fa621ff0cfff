"""[16]: STANDINGS."""

import itertools
import unittest

from partedmeet.errors import NoDeed
from partedmeet.forms import is_standing
from partedmeet.standings import can_be_done, deeds_of, done, end_standing, first_standing, open_rounds, place_of
from tests.helper import ALONE, BOTH, CROSS, SALE, many_dealings, raised, told


def all_standings(dealing):
    """all STANDINGS of a DEALING, MET or not"""
    places = [[(party, part[0]) for part in dealing[1] if party in part[1]] for party in dealing[0]]
    return list(itertools.product(*places))


class Standings(unittest.TestCase):
    def test_ends(self):
        self.assertEqual(told(self, first_standing, SALE), (("bank", "first"), ("buyer", "first"), ("seller", "first")))
        self.assertEqual(told(self, end_standing, SALE), (("bank", "last"), ("buyer", "last"), ("seller", "last")))
        self.assertEqual(told(self, deeds_of, SALE, end_standing(SALE)), ())
        self.assertEqual(told(self, open_rounds, SALE, end_standing(SALE)), ())
        self.assertEqual(told(self, first_standing, ALONE), (("p", "first"),))

    def test_the_sale(self):
        behind = told(self, done, SALE, first_standing(SALE), ("first", "ask"))
        self.assertEqual(behind, (("bank", "loan"), ("buyer", "loan"), ("seller", "deal")))
        self.assertEqual(told(self, place_of, behind, "seller"), "deal")
        self.assertEqual(told(self, open_rounds, SALE, behind), ("loan",))
        self.assertEqual(told(self, deeds_of, SALE, behind), (("loan", "grant"),))
        self.assertIs(told(self, can_be_done, SALE, behind, ("loan", "grant")), True)
        self.assertIs(told(self, can_be_done, SALE, behind, ("deal", "cash")), False)

    def test_nothing_is_open_where_all_wait_for_others(self):
        standing = (("a", "x"), ("b", "y"))
        self.assertEqual(told(self, open_rounds, CROSS, standing), ())
        self.assertEqual(told(self, deeds_of, CROSS, standing), ())

    def test_any_two_names_are_a_deed(self):
        start = first_standing(BOTH)
        for deed in (("left", "on"), ("first", "stop"), ("none", "go"), ("last", "go"), ("go", "first"), ("a", "b")):
            self.assertIs(told(self, can_be_done, BOTH, start, deed), False)
            self.assertEqual(raised(self, NoDeed, done, BOTH, start, deed), {"index": 0})
            self.assertIs(told(self, can_be_done, BOTH, end_standing(BOTH), deed), False)

    def test_all_standings_of_small_dealings(self):
        for dealing in many_dealings(60):
            parties, rounds = dealing
            names = [part[0] for part in rounds] + ["none"]
            words = ["k", "l", "m", "go", "on", "over", "ok"]
            for standing in all_standings(dealing):
                self.assertTrue(is_standing(dealing, standing))
                places = dict(standing)
                wanted = [n for n, lot, _, _ in rounds if n != "last" and {places[p] for p in lot} == {n}]
                self.assertEqual(open_rounds(dealing, standing), tuple(wanted))
                for party in parties:
                    self.assertEqual(place_of(standing, party), places[party])
                deeds = []
                for name, _, _, results in rounds:
                    for word, nexts in results:
                        if name in wanted:
                            deeds.append((name, word))
                            behind = done(dealing, standing, (name, word))
                            self.assertEqual(dict(behind), {**places, **dict(nexts)})
                            self.assertTrue(is_standing(dealing, behind))
                self.assertEqual(deeds_of(dealing, standing), tuple(sorted(deeds)))
                for deed in itertools.product(names, words):
                    self.assertIs(can_be_done(dealing, standing, deed), deed in deeds)


if __name__ == "__main__":
    unittest.main()
