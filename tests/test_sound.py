"""[24], and what [5] says of it: FAULTS, and what is SOUND."""

import unittest

from partedmeet.dealings import with_result, with_round
from partedmeet.dealingtexts import read_dealing
from partedmeet.errors import TooMany
from partedmeet.sound import fault, is_sound, is_sound_slowly
from tests.helper import ALONE, BOTH, CROSS, FIXED, LOST, PLAIN, SALE, STUCK, THREE, Dice, grown_dealing, many_dealings
from tests.helper import plain_deeds, plain_is_sound, plain_led, plain_met, plain_nexts, raised, told
from tests.plain import JUST_2000, OVER_2000, chains, great_dealing, nested_loops, plain_fault


class Sound(unittest.TestCase):
    def test_known_ones(self):
        for dealing in (BOTH, SALE, PLAIN, ALONE, nested_loops(22)):
            self.assertIsNone(told(self, fault, dealing))
            self.assertIs(told(self, is_sound, dealing), True)
            self.assertIs(told(self, is_sound_slowly, dealing), True)
        wanted = (
            (LOST, ("lost", "pit")),
            (STUCK, ("lost", "x")),
            (CROSS, ("date", "first", "go", "a", "b")),
            (THREE, ("circle", ("x", "y", "z"))),
        )
        for dealing, why in wanted:
            self.assertEqual(told(self, fault, dealing), why)
            self.assertIs(told(self, is_sound, dealing), False)
            self.assertIs(told(self, is_sound_slowly, dealing), False)

    def test_the_sorts_of_faults_come_in_their_order(self):
        # Each sort stands alone above; now THREE gets a DATE that is not SINGLE, then a round without a DISTANCE too.
        parted = with_result(THREE, "y", "aa", {"b": "last", "c": "z"})
        self.assertEqual(told(self, fault, parted)[0], "date")
        pit = with_round(parted, ("pit", "b", "b", [("on", [("b", "pit")])]))
        self.assertEqual(told(self, fault, pit)[0], "date")
        self.assertEqual(told(self, fault, with_result(pit, "y", "down", {"b": "pit", "c": "last"})), ("lost", "pit"))

    def test_rounds_that_are_not_led_do_no_harm(self):
        text = "parties a b\nround first a a b\nresult go a last b last\nround last a a b\nround x a a\nresult on a x\n"
        dealing = read_dealing(text + "round y a a b\nresult go a x b y")
        self.assertIsNone(told(self, fault, dealing))
        self.assertIs(told(self, is_sound, dealing), True)
        self.assertIs(told(self, is_sound_slowly, dealing), True)

    def test_last_that_is_not_led(self):
        text = "parties a\nround first a a\nresult go a first\nround last a a\nround x a a\nresult on a last"
        dealing = read_dealing(text)
        self.assertEqual(told(self, fault, dealing), ("lost", "first"))
        self.assertIs(told(self, is_sound, dealing), False)
        self.assertIs(told(self, is_sound_slowly, dealing), False)

    def test_against_a_plain_search(self):
        sorts = {}
        for dealing in many_dealings(500):
            why = told(self, fault, dealing)
            self.assertEqual(why, plain_fault(dealing))
            sorts[why and why[0]] = sorts.get(why and why[0], 0) + 1
            self.assertIs(told(self, is_sound, dealing), why is None)
            self.assertIs(told(self, is_sound_slowly, dealing), why is None)
            self.assertIs(plain_is_sound(dealing), why is None)
        self.assertGreater(min(sorts["lost"], sorts["date"], sorts[None]), 50)
        self.assertGreater(sorts["circle"], 0)

    def test_in_a_sound_dealing_each_led_round_is_open_at_some_time(self):
        for dealing in many_dealings(200):
            if plain_is_sound(dealing):
                ready = {deed[0] for standing in plain_met(dealing) for deed, _ in plain_deeds(dealing, standing)}
                self.assertEqual(sorted(ready | {"last"}), plain_led(dealing))

    def test_great_ones(self):
        for seed in range(24):
            dealing = great_dealing(seed)
            self.assertEqual([len(dealing[0]), len(dealing[1])], [1 + seed % 8, 24])
            self.assertIsNone(told(self, fault, dealing))
            self.assertIs(told(self, is_sound, dealing), True)

    def test_great_ones_with_one_next_changed(self):
        counts = [0, 0]
        for seed in range(48):
            dealing, dice = great_dealing(1 + seed % 3), Dice(seed)
            (name, word), nexts = dice.pick(sorted(plain_nexts(dealing).items()))
            party = dice.pick(sorted(nexts))
            nexts[party] = dice.pick([part[0] for part in dealing[1] if party in part[1]])
            bent = with_result(dealing, name, word, nexts)
            try:
                slowly = is_sound_slowly(bent)
            except TooMany:
                continue
            counts[slowly] += 1
            self.assertIs(told(self, is_sound, bent), slowly)
        self.assertGreater(min(counts), 5)

    def test_slowly_up_to_2000(self):
        self.assertIs(told(self, is_sound_slowly, JUST_2000), True)
        self.assertEqual(raised(self, TooMany, is_sound_slowly, OVER_2000), {"most": 2000})
        self.assertIs(told(self, is_sound, OVER_2000), True)
        far = chains([2, 2, 2, 2, 2, 2, 3, 3], [(0,) * 8])
        self.assertEqual(raised(self, TooMany, is_sound_slowly, far), {"most": 2000})
        self.assertIs(told(self, is_sound, far), True)

    def test_slowly_where_it_is_not_sound(self):
        # The last round of a chain leads back to its first one: so a never comes to `last`.
        for dealing in (JUST_2000, OVER_2000):
            stuck = with_result(dealing, "au", "on", {"a": "ax"})
            self.assertEqual(fault(stuck), ("lost", "au"))
            self.assertIs(told(self, is_sound_slowly, stuck), False)
        far = with_result(chains([2, 2, 2, 2, 2, 2, 3, 3], [(0,) * 8]), "ay", "on", {"a": "ax"})
        self.assertEqual(raised(self, TooMany, is_sound_slowly, far), {"most": 2000})
        self.assertIs(told(self, is_sound, far), False)

    def test_a_small_change_is_found(self):
        for seed in range(60):
            self.assertIs(is_sound(grown_dealing(seed, False)), True)
        for dealing in FIXED:
            self.assertIs(is_sound(dealing), dealing in (BOTH, SALE, PLAIN, ALONE))


if __name__ == "__main__":
    unittest.main()
