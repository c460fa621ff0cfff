"""[5] to [10]: what holds over the whole program, by going through all MET STANDINGS of small DEALINGS."""

import itertools
import unittest

from partedmeet.certificates import certificate, flaw, is_certificate, is_ring, ring, walled
from partedmeet.dealings import all_deeds, chooser_of, lot_of, rounds_of
from partedmeet.errors import NoRound, NoSound
from partedmeet.games import can_force, can_force_slowly
from partedmeet.grown import grow_row, grown, is_grown_row, is_growth
from partedmeet.headtrees import head_tree, headless
from partedmeet.homeward import choices, home_deeds
from partedmeet.house import House
from partedmeet.kept import Kept
from partedmeet.knots import circle_through, heads_of, is_circle
from partedmeet.leastforms import are_alike, least_form
from partedmeet.parting import is_parting, likeness, parting, trace_of
from partedmeet.rulerows import applied_row, is_rule_row, rule_row
from partedmeet.rules import applied, is_bare, rules_of
from partedmeet.runs import is_run, met, met_runs, run
from partedmeet.sound import fault, is_sound, is_sound_slowly
from partedmeet.standings import end_standing, first_standing, open_rounds
from partedmeet.together import all_together, open_together_slowly
from partedmeet.ways import distances, led
from tests.helper import BOTH, SALE, many_dealings, plain_is_sound, plain_led, plain_met, plain_steps, raised
from tests.houses import Members
from tests.more import IDLE, LOOPS, as_dice, faced, plain_end, plain_open, plain_parting, plain_run, some_run
from tests.plain import plain_date, plain_heads, plain_tied

SMALL = [LOOPS, IDLE] + many_dealings(150)
SOUND = [dealing for dealing in SMALL if plain_is_sound(dealing)]


def plain_has_way_home(dealing, name):
    steps, found = plain_steps(dealing), [name]
    for here in found:
        found += [there for there in sorted(steps[here]) if there not in found]
    return "last" in found


class Guarantees(unittest.TestCase):
    def test_there_are_both(self):
        self.assertGreater(len(SOUND), 50)
        self.assertGreater(len(SMALL) - len(SOUND), 50)

    def test_5_sound(self):
        for dealing in SMALL:
            names = plain_led(dealing)
            far = [name for name in names if not plain_has_way_home(dealing, name)]
            parted = []
            for name, word in all_deeds(dealing):
                for one, other in itertools.combinations(lot_of(dealing, name), 2) if name in names else ():
                    if plain_date(dealing, name, word, one, other) is None:
                        parted.append((name, word, one, other))
            circles = plain_tied(plain_steps(dealing), names)
            bad = [circle for circle in circles if not plain_heads(dealing, circle)]
            self.assertIs(headless(dealing) is None, not bad)
            self.assertIs(head_tree(dealing) is not None, not bad)
            good = not far and not parted and not bad
            self.assertIs(plain_is_sound(dealing), good)
            self.assertIs(is_sound(dealing), good)
            self.assertIs(is_sound_slowly(dealing), good)
            self.assertIs(fault(dealing) is None, good)
            self.assertEqual(sorted(distances(dealing)), names)

    def test_5_circles(self):
        many = 0
        for dealing in SOUND:
            for names in plain_tied(plain_steps(dealing), plain_led(dealing)):
                circle = circle_through(dealing, names)
                self.assertIs(is_circle(dealing, circle), True)
                self.assertEqual(heads_of(dealing, circle), plain_heads(dealing, names))
                self.assertNotEqual(heads_of(dealing, circle), ())
                many += 1
        self.assertGreater(many, 50)

    def test_5_each_led_round_is_open_at_some_time(self):
        for dealing in SOUND:
            ready = {name for standing in met(dealing) for name in open_rounds(dealing, standing)}
            self.assertEqual(sorted(ready | {"last"}), list(led(dealing)))
            self.assertEqual(sorted(ready), sorted({name for at in plain_met(dealing) for name in plain_open(dealing, at)}))

    def test_6_certificates(self):
        for dealing in SMALL:
            found = certificate(dealing)
            self.assertIs(is_certificate(dealing, found), True)
            self.assertEqual(found[0], "sound" if plain_is_sound(dealing) else "unsound")
            flaws = [(deeds, flaw(dealing, standing)) for standing, deeds in met_runs(dealing).items()]
            flaws = [(deeds, why) for deeds, why in flaws if why is not None]
            self.assertIs(flaws == [], plain_is_sound(dealing))
            for deeds, why in flaws:
                self.assertIs(is_certificate(dealing, ("unsound", deeds, why)), True)
                standing = plain_run(dealing, deeds)
                # From there on no RUN leads to the END.
                self.assertNotIn(plain_end(dealing), plain_met(dealing, standing))
                if why[0] == "wall":
                    self.assertIs(walled(dealing, standing, why[1], why[2]), True)
                else:
                    self.assertIs(is_ring(dealing, standing, why[1]), True)

    def test_7_rules(self):
        for dealing in SMALL:
            if plain_is_sound(dealing):
                row = rule_row(dealing)
                self.assertIs(is_rule_row(dealing, row), True)
                self.assertIs(is_bare(applied_row(dealing, row)), True)
            else:
                self.assertEqual(raised(self, NoSound, rule_row, dealing), {"fault": fault(dealing)})
                self.check_never_bare(dealing)

    def check_never_bare(self, dealing):
        """whichever RULES are applied to what is not SOUND: it never comes to be BARE"""
        dice = as_dice(len(str(dealing)))
        for _ in range(12):
            rules = rules_of(dealing)
            if rules and len(all_deeds(dealing)) < 20:
                dealing = applied(dealing, dice.pick(rules))
                self.assertIs(is_bare(dealing), False)

    def test_7_rules_and_growths_keep_what_is_sound(self):
        for seed, dealing in enumerate(SOUND):
            for rule in rules_of(dealing):
                self.assertIs(plain_is_sound(applied(dealing, rule)), True)
            dice = as_dice(seed)
            for name, word in all_deeds(dealing):
                lot = tuple(dice.some(lot_of(dealing, name)))
                for growth in (
                    ("split", name, word, "new"), ("loop", name, "new"), ("add", name, (word,), "new", lot, lot[0], ("on",), word),
                ):
                    self.assertIs(is_growth(dealing, growth), True)
                    self.assertIs(plain_is_sound(grown(dealing, growth)), True)

    def test_7_all_sound_ones_are_grown(self):
        for dealing in SMALL:
            idle = [name for name in rounds_of(dealing) if name not in plain_led(dealing)]
            if plain_is_sound(dealing) and not idle:
                self.assertIs(is_grown_row(dealing, grow_row(dealing)), True)
                self.assertEqual(Kept(dealing).rows(), grow_row(dealing))
            else:
                self.assertRaises(NoRound if plain_is_sound(dealing) else NoSound, grow_row, dealing)

    def test_8_games(self):
        counts = [0, 0]
        for dealing in SOUND:
            for many in range(len(dealing[0]) + 1):
                for ours in itertools.combinations(dealing[0], many):
                    can = can_force(dealing, ours)
                    counts[can] += 1
                    self.assertIs(can_force_slowly(dealing, ours, True), can)
                    self.assertIs(can_force_slowly(dealing, ours, False), can)
        self.assertGreater(min(counts), 50)

    def test_9_open_at_once(self):
        many = 0
        for dealing in SOUND:
            couples = all_together(dealing)
            many += len(couples)
            ready = [plain_open(dealing, standing) for standing in plain_met(dealing)]
            for one, other in itertools.combinations(rounds_of(dealing), 2):
                wanted = any(one in names and other in names for names in ready)
                self.assertIs((one, other) in couples, wanted)
                self.assertIs(open_together_slowly(dealing, one, other), wanted)
        self.assertGreater(many, 20)

    def test_9_least_forms(self):
        counts = [0, 0]
        for seed, one in enumerate(SOUND):
            for sort in range(3):
                other = faced(one, as_dice(seed), sort)
                if other is not None:
                    is_same = plain_parting(one, other)[0] is None
                    counts[is_same] += 1
                    self.assertIs(least_form(one) == least_form(other), is_same)
                    self.assertIs(are_alike(one, other), is_same)
                    self.assertIs(likeness(one, other) is not None, is_same)
                    self.assertIs(parting(one, other) is None, is_same)
                    self.check_runs(one, other, is_same)
        self.assertGreater(min(counts), 20)

    def check_runs(self, one, other, is_same):
        if is_same:
            deeds = some_run(one, as_dice(7), 6)
            wanted = [(lot_of(one, name), chooser_of(one, name), word) for name, word in deeds]
            self.assertEqual(trace_of(one, deeds), tuple(wanted))
            self.assertIs(is_parting(one, other, (0, deeds)), False)
        else:
            self.assertIs(is_parting(one, other, parting(one, other)), True)

    def test_10_homeward(self):
        many = 0
        for dealing in SMALL:
            lengths = distances(dealing)
            if None not in lengths.values():
                for standing in plain_met(dealing):
                    deeds = home_deeds(dealing, standing)
                    self.assertIs(is_run(dealing, standing, deeds), True)
                    for name in lengths:
                        self.assertLessEqual(len([deed for deed in deeds if deed[0] == name]), lengths[name])
                    here = run(dealing, standing, deeds)
                    self.assertEqual(open_rounds(dealing, here), ())
                    if plain_is_sound(dealing):
                        self.assertEqual(here, end_standing(dealing))
                    many += 1
        self.assertGreater(many, 500)

    def test_10_where_it_does_not_come_home_some_are_a_ring(self):
        many = 0
        for dealing in SMALL:
            if None not in distances(dealing).values():
                for standing in plain_met(dealing):
                    here = run(dealing, standing, home_deeds(dealing, standing))
                    if here != end_standing(dealing):
                        self.assertIs(is_ring(dealing, here, ring(dealing, here)), True)
                        many += 1
        self.assertGreater(many, 20)

    def test_houses_come_home_from_each_met_standing(self):
        for dealing in [dealing for dealing in SOUND if len(plain_met(dealing)) < 9][:60]:
            for deeds in met_runs(dealing).values():
                house = House(dealing)
                for name, word in deeds:
                    for party in lot_of(dealing, name):
                        house.ask(party, house.counts()[party], word)
                self.assertEqual([house.deeds(), house.standing()], [deeds, run(dealing, first_standing(dealing), deeds)])
                members = Members(dealing, house)
                self.assertTrue(members.go_home(choices(dealing), 60))
                self.assertEqual(house.standing(), end_standing(dealing))

    def test_kept_ones_stay_sound(self):
        for dealing in (BOTH, SALE, LOOPS):
            kept = Kept(dealing)
            for name, word in all_deeds(dealing):
                for party in lot_of(dealing, name):
                    for there in rounds_of(dealing):
                        try:
                            kept.edit(("turn", name, word, party, there))
                        except ValueError:
                            continue
                        self.assertTrue(plain_is_sound(kept.dealing()))
                        kept.undo()
            self.assertEqual(kept.dealing(), dealing)


if __name__ == "__main__":
    unittest.main()
