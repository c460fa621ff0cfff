"""[3] and [4], over the whole program: any values, errors of this package alone, and nothing that changes."""

import unittest

from partedmeet.certificates import certificate, is_certificate, is_ring, walled
from partedmeet.chances import are_chances
from partedmeet.dates import are_meetings
from partedmeet.dealingtexts import dealing_text, read_dealing
from partedmeet.desk import Desk
from partedmeet.errors import DealError, NoRule, NoText, TooMany, Wrong
from partedmeet.forms import are_deeds, is_dealing, is_deed, is_fraction, is_integer, is_lot, is_name, is_standing
from partedmeet.games import is_plan, is_refusal
from partedmeet.grown import grow_row, grown_row, is_grown_row, is_growth
from partedmeet.headtrees import head_tree, is_head_tree
from partedmeet.house import House
from partedmeet.kept import Kept
from partedmeet.knots import is_circle
from partedmeet.logs import reopened
from partedmeet.mending import is_mending
from partedmeet.parting import is_likeness, is_parting, is_trace, likeness
from partedmeet.rulerows import applied_row, is_rule_row, rule_row
from partedmeet.rules import is_rule
from partedmeet.runs import is_run
from partedmeet.sheets import is_race_run, is_unwritten_run, is_use
from partedmeet.standings import first_standing
from partedmeet.ways import is_road, is_way
from tests.helper import BOTH, CROSS, OTHER_KINDS, PLAIN, STUCK, Dice, kinds_of, many_dealings
from tests.test_grown import TALK
from tests.test_kept import PAIR
from tests.test_sheets import USE

DEEP = "end"
for _ in range(19):
    DEEP = (DEEP, [DEEP] if len(str(DEEP)) < 100 else {})
OBJECTS = [House(PLAIN), Kept(PLAIN), Desk(PLAIN), NoText(1, 2), DealError("x"), TooMany(3)]
HOSTILE = list(OTHER_KINDS) + OBJECTS + [
    DEEP, [DEEP], {1: DEEP}, list(range(3000)), ("a",) * 3000, {("a", at): [at] for at in range(900)}, "x" * 9000, " " * 9000,
    "a\n" * 4500, "".join(chr(sign) for sign in range(32, 127)), 10 ** 40 - 1, -(10 ** 40 - 1), {"a": {"b": {"c": ()}}}, ((),), [[]], ({},),
    ("first", "go"), (("first", "go"),), ("rule", ()), ("grow", []), (True, True), {True: False}, "first", "last", "go",
]
GO = (("first", "go"), ("left", "over"), ("left", "on"))
RACE = ("plan", ("left", "on"), ("right", "on"))
# What tells of any value, the arguments ahead of it, and a right one.
TELLERS = (
    (is_integer, (), 3), (is_name, (), "abc"), (is_fraction, (), (1, 2)), (is_dealing, (), PLAIN),
    (is_standing, (BOTH,), first_standing(BOTH)), (is_deed, (), ("a", "b")), (are_deeds, (), GO), (is_lot, (BOTH,), ("a", "b")),
    (is_run, (BOTH, first_standing(BOTH)), GO), (is_way, (BOTH,), ("first", "left", "last")),
    (is_road, (BOTH, "a"), ("first", "left", "left")), (are_meetings, (BOTH, "first", "go", "a", "c"), (("left",), ("last",))),
    (is_circle, (BOTH,), ("left", "left")), (is_head_tree, (BOTH,), head_tree(BOTH)), (is_certificate, (BOTH,), certificate(BOTH)),
    (is_certificate, (CROSS,), certificate(CROSS)), (is_ring, (CROSS, (("a", "x"), ("b", "y"))), ("a", "b")),
    (walled, (STUCK, (("a", "x"), ("b", "last")), "a"), ("x",)), (is_rule, (PAIR,), ("iterate", "left", "m")), (is_rule_row, (PAIR,), rule_row(PAIR)),
    (is_growth, (PAIR,), ("add", "first", ("k",), "new", ("a",), "a", ("on",), "k")), (is_grown_row, (PAIR,), grow_row(PAIR)),
    (are_chances, (PLAIN,), {("first", "go"): (1, 1)}), (is_plan, (PLAIN, ("b",)), {"first": "go"}), (is_refusal, (TALK, ()), ("first", "talk")),
    (is_use, (BOTH,), USE), (is_race_run, (BOTH, USE, RACE), GO[:2]), (is_unwritten_run, (BOTH, USE, "plan"), GO[:2]),
    (is_likeness, (PAIR, PAIR), likeness(PAIR, PAIR)), (is_parting, (PAIR, PLAIN), (0, (("first", "k"),))),
    (is_trace, (PLAIN,), ((("a", "b"), "b", "go"),)), (is_mending, (BOTH,), (("left", "over"),)),
)


def bent(thing, dice, other):
    """a value like this one, with another one for a part of it at any depth"""
    if dice.below(3) == 0 or not isinstance(thing, (tuple, list, dict)) or not thing:
        return other
    if isinstance(thing, dict):
        key = dice.pick(list(thing))
        return {**thing, key: bent(thing[key], dice, other)}
    at = dice.below(len(thing))
    return thing[:at] + type(thing)([bent(thing[at], dice, other)]) + thing[at + 1:]


def is_plain(thing):
    """whether no object of this package is in it: then its kinds can be compared"""
    if isinstance(thing, (tuple, list)):
        return all(is_plain(part) for part in thing)
    if isinstance(thing, dict):
        return all(is_plain(part) for part in thing.values())
    return thing is None or isinstance(thing, (int, str))


class Whole(unittest.TestCase):
    def test_what_tells_of_any_value(self):
        dice = Dice(1)
        for teller, ahead, right in TELLERS:
            self.assertIs(teller(*ahead, right), True, teller.__name__)
            for other in HOSTILE:
                for thing in [other] + [bent(right, dice, other) for _ in range(6)]:
                    before = kinds_of(thing) if is_plain(thing) else None
                    told = teller(*ahead, thing)
                    self.assertIn(told, (True, False))
                    self.assertIsInstance(told, bool)
                    if before is not None:
                        self.assertEqual(kinds_of(thing), before)
                        self.assertIs(teller(*ahead, thing), told)

    def test_rows_of_any_values(self):
        for other in HOSTILE:
            for call in (applied_row, grown_row):
                for row in ([other], (other, other)):
                    with self.assertRaises(NoRule) as caught:
                        call(PLAIN, row)
                    self.assertEqual(caught.exception.index, 0)

    def test_what_takes_any_values(self):
        house, kept, desk, dice = House(BOTH), Kept(PAIR), Desk(PAIR), Dice(3)
        before = (house.log(), kept.twin(), desk.twin())
        rights = (
            (read_dealing, (dealing_text(PLAIN),)), (House, (PLAIN,)), (Kept, (PLAIN,)), (Desk, (PLAIN,)), (reopened, (PLAIN, "here a\n")),
            (house.ask, ("nobody", 7, "go")), (kept.would, (("strike", "left", "m"),)), (kept.edit, (("strike", "left", "n"),)),
            (desk.execute, ("undo",)),
        )
        wrong = 0
        for call, right in rights:
            for other in HOSTILE:
                for at in range(len(right)):
                    for thing in [other] + [bent(right[at], dice, other) for _ in range(4)]:
                        try:
                            call(*right[:at], thing, *right[at + 1:])
                        except Wrong as error:
                            self.assertEqual(error.place, at)
                            wrong += 1
                        except DealError:
                            pass
        self.assertGreater(wrong, 1000)
        self.assertEqual((house.log(), kept, desk), before)

    def test_a_deal_error_itself_is_raised_nowhere(self):
        many = 0
        for dealing in many_dealings(40):
            for call in (House, Kept, Desk):
                try:
                    call(dealing)
                except DealError as error:
                    self.assertNotEqual(type(error), DealError)
                    self.assertEqual(type(error).__bases__, (DealError,))
                    many += 1
        self.assertGreater(many, 20)


if __name__ == "__main__":
    unittest.main()
