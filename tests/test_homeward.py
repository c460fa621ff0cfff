"""[20], and what [10] says of it: homeward."""

import unittest

from partedmeet.homeward import choices, home_deeds, home_run
from tests.helper import (
    ALONE,
    BOTH,
    CROSS,
    LOST,
    SALE,
    STUCK,
    many_dealings,
    plain_deeds,
    plain_is_sound,
    plain_led,
    plain_length,
    plain_met,
    plain_nexts,
    plain_steps,
    told,
)
from tests.plain import all_standings


def plain_choices(dealing):
    table = plain_steps(dealing)
    found = {}
    for name in plain_led(dealing):
        length = plain_length(table, name, "last")
        if length:
            found[name] = min(
                (word, party)
                for (at, word), nexts in plain_nexts(dealing).items()
                for party, there in nexts.items()
                if at == name and plain_length(table, there, "last") == length - 1
            )
    return found


class Homeward(unittest.TestCase):
    def check_home(self, dealing, standing):
        """checks the RUN homeward from a STANDING, step by step, and returns where it ends"""
        chosen = plain_choices(dealing)
        here = standing
        for deed in told(self, home_deeds, dealing, standing):
            ready = sorted({name for (name, _), _ in plain_deeds(dealing, here) if name in chosen})
            self.assertEqual(deed, (ready[0], chosen[ready[0]][0]))
            here = dict(plain_deeds(dealing, here))[deed]
        self.assertFalse([deed for deed, _ in plain_deeds(dealing, here) if deed[0] in chosen])
        return here

    def test_known_ones(self):
        self.assertEqual(told(self, choices, BOTH), {"first": ("go", "a"), "left": ("on", "a"), "right": ("on", "c")})
        self.assertEqual(told(self, home_run, BOTH), (("first", "go"), ("left", "on"), ("right", "on")))
        self.assertEqual(told(self, choices, SALE), {"deal": ("cash", "buyer"), "first": ("leave", "bank"), "loan": ("grant", "bank")})
        self.assertEqual(told(self, home_run, SALE), (("first", "leave"),))
        self.assertEqual(told(self, choices, ALONE), {"first": ("go", "p")})

    def test_rounds_without_a_distance_and_rounds_that_are_not_led(self):
        self.assertEqual(told(self, choices, LOST), {"first": ("go", "a")})
        self.assertEqual(told(self, choices, STUCK), {"first": ("go", "b")})
        self.assertEqual(told(self, home_run, STUCK), (("first", "go"),))
        self.assertEqual(told(self, home_deeds, LOST, (("a", "pit"), ("b", "pit"))), ())
        self.assertEqual(told(self, home_deeds, LOST, (("a", "last"), ("b", "lone"))), ())
        self.assertEqual(told(self, home_deeds, STUCK, (("a", "last"), ("b", "far"))), ())
        self.assertEqual(told(self, home_run, CROSS), (("first", "go"),))

    def test_choices_against_a_plain_search(self):
        for dealing in many_dealings(150):
            found = told(self, choices, dealing)
            self.assertEqual(found, plain_choices(dealing))
            self.assertEqual(list(found), sorted(found))

    def test_it_ends_from_each_standing(self):
        for dealing in many_dealings(60):
            for standing in all_standings(dealing):
                self.check_home(dealing, standing)
            start = tuple((party, "first") for party in dealing[0])
            self.assertEqual(told(self, home_run, dealing), home_deeds(dealing, start))

    def test_no_round_is_done_more_often_than_its_distance(self):
        most = 0
        for dealing in many_dealings(120):
            table = plain_steps(dealing)
            lengths = {name: plain_length(table, name, "last") for name in plain_led(dealing)}
            if None not in lengths.values():
                for standing in plain_met(dealing):
                    names = [name for name, _ in home_deeds(dealing, standing)]
                    for name in names:
                        self.assertLessEqual(names.count(name), lengths[name])
                        most = max(most, names.count(name))
        self.assertGreater(most, 0)

    def test_it_leads_to_the_end_where_a_dealing_is_sound(self):
        many = 0
        for dealing in many_dealings(200):
            if plain_is_sound(dealing):
                many += len(dealing[1]) > 3 and len(dealing[0]) > 1
                for standing in plain_met(dealing):
                    self.assertEqual({at for _, at in self.check_home(dealing, standing)}, {"last"})
        self.assertGreater(many, 60)


if __name__ == "__main__":
    unittest.main()
