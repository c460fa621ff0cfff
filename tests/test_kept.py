"""[43]: a DEALING kept SOUND under EDITS."""

import unittest

from partedmeet.certificates import is_certificate
from partedmeet.dealings import all_deeds, made_dealing, nexts_of, rounds_of, with_result, with_round, words_of
from partedmeet.dealingtexts import read_dealing
from partedmeet.errors import NoRound, NoRule, NoSound, NoText, Nothing, TooMany, Wrong
from partedmeet.forms import is_dealing
from partedmeet.grown import grown, is_grown_row
from partedmeet.house import House
from partedmeet.kept import Kept
from partedmeet.nested import followed
from partedmeet.rules import applied, rules_of
from partedmeet.sound import fault, is_sound
from tests.helper import ALONE, BOTH, CROSS, LOST, OTHER_KINDS, PLAIN, SALE, STUCK, THREE, Dice, many_dealings
from tests.helper import plain_is_sound, plain_led, plain_lots, plain_nexts, raised, variants
from tests.more import IDLE, LOOPS
from tests.plain import great_dealing, nested_loops
from tests.test_grown import TALK
from tests.test_rulerows import wide

# Of `first` one RESULT leads all to `left`, another one all to `last`.
PAIR = read_dealing(
    "parties a b\nround first a a b\nresult k a left b left\nresult l a last b last\nround left b a b\nresult m a left b left\n"
    "result n a last b last\nround last a a b"
)


def state_of(kept):
    """what a Kept tells, and what it would do again"""
    found, twin = (kept.dealing(), kept.edits()), kept.twin()
    while True:
        try:
            twin.redo()
        except Nothing:
            return found + (twin.edits(), twin.dealing())


def plain_dropped(dealing):
    """the DEALING without what is not LED"""
    names = plain_led(dealing)
    return (dealing[0], tuple(part for part in dealing[1] if part[0] in names or part[0] == "last"))


def plain_turned(dealing, name, word, party, there):
    nexts = plain_nexts(dealing)
    nexts[(name, word)][party] = there
    rounds = []
    for at, lot, chooser, results in dealing[1]:
        rounds.append((at, lot, chooser, [(told, list(nexts[(at, told)].items())) for told, _ in results]))
    return made_dealing(dealing[0], rounds)


def some_edit(dealing, dice):
    """an EDIT that can be done, SOUND behind it or not"""
    name, word = dice.pick(all_deeds(dealing))
    sort = dice.below(6)
    if sort == 0 and rules_of(dealing):
        return ("rule", dice.pick(rules_of(dealing)))
    if sort == 1:
        return ("grow", ("split", name, word, dice.pick([other for other in "qxyz" if other not in words_of(dealing, name)] or ["w" * 9])))
    if sort == 2 and "loop" not in words_of(dealing, name):
        return ("grow", ("loop", name, "loop"))
    if sort == 3 and len(words_of(dealing, name)) > 1:
        return ("strike", name, word)
    if sort == 4:
        new = [other for other in ("na", "nb", "nc", "nd", "ne") if other not in rounds_of(dealing)]
        lot = tuple(dice.some(plain_lots(dealing)[name]))
        if new:
            return ("grow", ("add", name, (word,), new[0], lot, dice.pick(lot), ("on",), word))
    nexts = nexts_of(dealing, name, word)
    party = dice.pick(list(nexts))
    others = [at for at, lot in plain_lots(dealing).items() if party in lot and at != nexts[party]]
    return ("turn", name, word, party, dice.pick(others))


def plain_edited(dealing, edit):
    """by the words of [43]; what is not LED is dropped"""
    if edit[0] == "rule":
        return plain_dropped(applied(dealing, edit[1]))
    if edit[0] == "grow":
        return plain_dropped(grown(dealing, edit[1]))
    if edit[0] == "turn":
        return plain_dropped(plain_turned(dealing, *edit[1:]))
    rounds = []
    for name, lot, chooser, results in dealing[1]:
        rounds.append((name, lot, chooser, tuple(result for result in results if (name, result[0]) != edit[1:])))
    return plain_dropped((dealing[0], tuple(rounds)))


class AtFirst(unittest.TestCase):
    def test_known_ones(self):
        for dealing in (PLAIN, ALONE, SALE, BOTH, LOOPS, TALK, nested_loops(22), great_dealing(7)):
            kept = Kept(dealing)
            self.assertEqual([kept.dealing(), kept.edits()], [dealing, ()])
            self.assertEqual(raised(self, Nothing, kept.undo), {})
            self.assertEqual(raised(self, Nothing, kept.redo), {})

    def test_what_it_does_not_take(self):
        for dealing in (CROSS, STUCK, LOST, THREE):
            self.assertEqual(raised(self, NoSound, Kept, dealing), {"fault": fault(dealing)})
        self.assertEqual(raised(self, NoRound, Kept, IDLE), {"name": "lone"})
        idle = with_round(PLAIN, ("zz", "a", "a", [("on", [("a", "zz")])]))
        self.assertEqual(raised(self, NoRound, Kept, idle), {"name": "zz"})
        # Not SOUND comes ahead of not LED: in LOST and STUCK there are rounds that are not LED.
        self.assertNotEqual(plain_led(LOST), list(rounds_of(LOST)))

    def test_any_values(self):
        many = 0
        for thing in variants(PLAIN) + [NoText(1, 2)]:
            if not is_dealing(thing):
                many += 1
                self.assertEqual(raised(self, Wrong, Kept, thing), {"place": 0})
        self.assertGreater(many, 100)
        for thing in (Kept(PLAIN), House(PLAIN)):
            with self.assertRaises(Wrong) as caught:
                Kept(thing)
            self.assertEqual(caught.exception.place, 0)

    def test_bounds(self):
        self.assertEqual(len(Kept(great_dealing(7)).dealing()[0]), 8)
        self.assertEqual(raised(self, Wrong, Kept, followed(great_dealing(7), "a", "nine")), {"place": 0})
        self.assertEqual(len(Kept(nested_loops(22)).dealing()[1]), 24)
        self.assertEqual(raised(self, Wrong, Kept, nested_loops(23)), {"place": 0})
        self.assertEqual(len(all_deeds(Kept(wide(6)).dealing())), 6)
        self.assertEqual(raised(self, Wrong, Kept, wide(7)), {"place": 0})
        # Ahead of all that may be wrong with it else.
        bad = with_round(CROSS, ("x", "ab", "a", [(word, [("a", "last"), ("b", "last")]) for word in "abcdefg"]))
        self.assertEqual(raised(self, Wrong, Kept, bad), {"place": 0})


class Edits(unittest.TestCase):
    def refused(self, kept, error, thing, fields):
        """checks that edit and would raise the same, and that nothing has changed"""
        before = state_of(kept)
        self.assertEqual(raised(self, error, kept.edit, thing), fields)
        self.assertEqual(raised(self, error, kept.would, thing), fields)
        self.assertEqual(state_of(kept), before)

    def done(self, kept, thing):
        """does an EDIT, and checks it against the plain one"""
        before = kept.dealing()
        wanted = plain_edited(before, thing)
        self.assertEqual(kept.would(thing), wanted)
        self.assertEqual(kept.dealing(), before)
        edits = kept.edits()
        self.assertIsNone(kept.edit(thing))
        self.assertEqual([kept.dealing(), kept.edits()], [wanted, edits + (thing,)])

    def test_each_sort(self):
        kept = Kept(PAIR)
        self.done(kept, ("rule", ("iterate", "left", "m")))
        self.done(kept, ("grow", ("loop", "left", "again")))
        self.done(kept, ("grow", ("add", "left", ("n",), "then", ("a",), "a", ("on",), "n")))
        self.done(kept, ("grow", ("split", "then", "on", "off")))
        self.done(kept, ("turn", "left", "n", "a", "last"))
        self.assertEqual(rounds_of(kept.dealing()), ("first", "last", "left"))
        self.done(kept, ("strike", "left", "again"))
        self.done(kept, ("rule", ("shortcut", "first", "k", "left")))
        self.assertEqual(kept.dealing(), made_dealing("ab", [
            ("first", "ab", "a", [("a", [("a", "last"), ("b", "last")]), ("l", [("a", "last"), ("b", "last")])]), ("last", "ab", "a", []),
        ]))
        self.done(kept, ("rule", ("merge", "first", "a", "l")))
        thing = ("turn", "first", "a", "a", "first")
        self.refused(kept, NoSound, thing, {"fault": fault(plain_turned(kept.dealing(), *thing[1:]))})
        self.assertEqual(len(kept.edits()), 8)

    def test_what_is_not_led_goes_at_once(self):
        kept = Kept(SALE)
        self.done(kept, ("strike", "first", "ask"))
        self.assertEqual(rounds_of(kept.dealing()), ("first", "last"))
        kept.undo()
        self.assertEqual(rounds_of(kept.dealing()), ("deal", "first", "last", "loan"))
        kept = Kept(PAIR)
        self.done(kept, ("rule", ("shortcut", "first", "k", "left")))
        # The loop `m` of `left` leads there still.
        self.assertEqual(rounds_of(kept.dealing()), ("first", "last", "left"))

    def test_other_values(self):
        for kept in (Kept(PAIR), Kept(ALONE)):
            others = list(OTHER_KINDS) + [
                ("rule",), ("grow",), ("strike",), ("turn",), ("strike", "first"), ("strike", "first", "k", "x"), ("turn", "first", "k", "a"),
                ("turn", "first", "k", "a", "last", "x"), ("rule", ["merge", "first", "k", "l"]), ("rule", None), ("rule", "merge"),
                ("rule", ("iterate", "left", "m"), ()), ("grow", {}), ("grow", [("loop", "first", "x")]), ("strike", "First", "k"),
                ("strike", "first", ""), ("strike", "first", ("k",)), ("strike", True, "k"), ("strike", None, None), ("Strike", "first", "k"),
                ["strike", "first", "k"], ("turn", "first", "k", "a", "x" * 13), ("turn", "first", "k", "a", None), ("merge", "first", "k", "l"),
                ("drop", ("x",)), (("rule",), ()), (True, ()), (None,) * 3, ("undo",), ("rule\n", ()), "strike first k",
            ]
            for thing in others:
                self.refused(kept, Wrong, thing, {"place": 0})
            for thing in (kept, (kept, ()), ("rule", kept), ("strike", kept, "k"), (kept, kept, kept), ("turn", "first", "k", "a", kept)):
                for call in (kept.edit, kept.would):
                    with self.assertRaises(Wrong) as caught:
                        call(thing)
                    self.assertEqual(caught.exception.place, 0)

    def test_what_cannot_be_done(self):
        kept = Kept(PAIR)
        for thing in (
            ("rule", ()), ("rule", ("merge", "first", "k", "l")), ("rule", ("iterate", "left", "n")), ("rule", ("drop", ())),
            ("rule", ("drop", ("left",))), ("rule", ("loop", "first", "x")), ("rule", (None, [1], {2: 3})), ("grow", ()),
            ("grow", ("loop", "last", "x")), ("grow", ("loop", "left", "m")), ("grow", ("iterate", "left", "m")), ("grow", ("split", "first", "k", "l")),
            ("grow", ("split", "first", "k", ["x"])), ("grow", ("fold", "first", ("k",), "left", "k")), ("strike", "none", "k"),
            ("strike", "first", "none"), ("strike", "last", "k"), ("turn", "none", "k", "a", "last"), ("turn", "first", "none", "a", "last"),
            ("turn", "first", "k", "none", "last"), ("turn", "first", "k", "a", "none"), ("turn", "first", "k", "a", "left"),
            ("turn", "first", "l", "a", "last"), ("turn", "last", "k", "a", "first"),
        ):
            self.refused(kept, NoRule, thing, {"index": 0})
        # A RESULT goes only if its round has another one; a party goes only where it is wanted, and only one of the round.
        self.refused(Kept(PLAIN), NoRule, ("strike", "first", "go"), {"index": 0})
        self.refused(Kept(SALE), NoRule, ("turn", "loan", "grant", "seller", "last"), {"index": 0})
        self.refused(Kept(SALE), NoRule, ("turn", "first", "ask", "seller", "loan"), {"index": 0})
        self.refused(Kept(SALE), NoRule, ("turn", "deal", "cash", "buyer", "last"), {"index": 0})

    def test_any_values_that_look_like_edits(self):
        for edit in (("rule", ("iterate", "left", "m")), ("strike", "left", "m"), ("turn", "left", "m", "a", "last")):
            for thing in variants(edit):
                kept = Kept(PAIR)
                before = state_of(kept)
                try:
                    kept.edit(thing)
                except (Wrong, NoRule, NoSound):
                    self.assertEqual(state_of(kept), before)
                else:
                    self.assertEqual(kept.edits(), (thing,))
                    self.assertTrue(is_sound(kept.dealing()))

    def test_not_sound(self):
        kept = Kept(PAIR)
        for thing in (("turn", "first", "k", "a", "last"), ("turn", "first", "l", "a", "left"), ("turn", "left", "n", "b", "first")):
            why = fault(plain_edited(PAIR, thing))
            self.assertIsNotNone(why)
            self.refused(kept, NoSound, thing, {"fault": why})
        # Without `n` no WAY leads from `left` to `last`.
        self.refused(kept, NoSound, ("strike", "left", "n"), {"fault": ("lost", "left")})

    def test_24_rounds_and_more(self):
        kept = Kept(nested_loops(21))
        self.done(kept, ("grow", ("add", "first", ("on",), "new", ("p",), "p", ("on",), "on")))
        self.assertEqual(len(kept.dealing()[1]), 24)
        self.refused(kept, TooMany, ("grow", ("add", "first", ("on",), "more", ("p",), "p", ("on",), "on")), {"most": 24})
        self.refused(kept, NoRule, ("grow", ("add", "first", ("on",), "new", ("p",), "p", ("on",), "on")), {"index": 0})
        self.done(kept, ("rule", ("shortcut", "first", "on", "new")))
        self.assertEqual(len(kept.dealing()[1]), 23)

    def test_400_results_and_more(self):
        kept = Kept(nested_loops(22))
        letters = "abcdefghijklmnopqrstuvwxyz"
        many = len(all_deeds(kept.dealing()))
        for word in [one + other for one in letters for other in letters][: 400 - many]:
            kept.edit(("grow", ("split", "first", "on", word + "x")))
        self.assertEqual(len(all_deeds(kept.dealing())), 400)
        self.refused(kept, TooMany, ("grow", ("split", "first", "on", "zzz")), {"most": 400})
        self.refused(kept, TooMany, ("grow", ("loop", "first", "zzz")), {"most": 400})
        # Of both bounds that of the rounds comes first.
        self.refused(kept, TooMany, ("grow", ("add", "first", ("on",), "new", ("p",), "p", ("on",), "on")), {"most": 24})
        self.assertEqual(kept.twin(), kept)
        self.done(kept, ("rule", ("merge", "first", "aax", "on")))
        self.done(kept, ("grow", ("loop", "first", "zzz")))
        self.done(kept, ("strike", "first", "zzz"))
        kept.undo()
        self.assertEqual(len(all_deeds(kept.dealing())), 400)

    def test_some_in_a_row(self):
        sorts = {}
        for seed, dealing in enumerate([PLAIN, BOTH, SALE, LOOPS, TALK] + many_dealings(90)):
            if plain_is_sound(dealing) and plain_led(dealing) == list(rounds_of(dealing)):
                dice, kept = Dice(seed), Kept(dealing)
                for _ in range(8):
                    thing = some_edit(kept.dealing(), dice)
                    behind = plain_edited(kept.dealing(), thing)
                    good = plain_is_sound(behind)
                    sorts[(thing[0], good)] = sorts.get((thing[0], good), 0) + 1
                    if good:
                        self.done(kept, thing)
                    else:
                        self.refused(kept, NoSound, thing, {"fault": fault(behind)})
                    self.check_kept(kept)
        self.assertEqual(sorted(sorts), [
            ("grow", True), ("rule", True), ("strike", False), ("strike", True), ("turn", False), ("turn", True),
        ])
        self.assertGreater(min(sorts.values()), 3)

    def check_kept(self, kept):
        self.assertTrue(plain_is_sound(kept.dealing()))
        self.assertEqual(plain_led(kept.dealing()), list(rounds_of(kept.dealing())))
        self.check_rows(kept)

    def check_rows(self, kept):
        self.assertIs(is_certificate(kept.dealing(), kept.certificate()), True)
        self.assertEqual(kept.certificate()[0], "sound")
        self.assertIs(is_grown_row(kept.dealing(), kept.rows()), True)

    def test_certificates_and_rows_of_great_ones(self):
        for dealing in [nested_loops(22)] + [great_dealing(seed) for seed in range(8)]:
            kept = Kept(dealing)
            self.check_rows(kept)
            kept.edit(("grow", ("loop", "first", "round")))
            self.check_rows(kept)


class TakenBack(unittest.TestCase):
    ROW = (("rule", ("iterate", "left", "m")), ("grow", ("loop", "first", "x")), ("strike", "first", "x"), ("turn", "first", "l", "a", "left"))

    def test_undo_and_redo(self):
        kept = Kept(PAIR)
        seen = [PAIR]
        for edit in self.ROW[:3]:
            kept.edit(edit)
            seen.append(kept.dealing())
        for at in (2, 1, 0):
            self.assertIsNone(kept.undo())
            self.assertEqual([kept.dealing(), kept.edits()], [seen[at], self.ROW[:at]])
        self.assertEqual(raised(self, Nothing, kept.undo), {})
        for at in (1, 2, 3):
            self.assertIsNone(kept.redo())
            self.assertEqual([kept.dealing(), kept.edits()], [seen[at], self.ROW[:at]])
        self.assertEqual(raised(self, Nothing, kept.redo), {})
        self.assertEqual([kept.dealing(), kept.edits()], [seen[3], self.ROW[:3]])

    def test_what_else_was_done_ends_it(self):
        kept = Kept(PAIR)
        kept.edit(self.ROW[0])
        kept.edit(self.ROW[1])
        kept.undo()
        # What is refused was not done, and would does nothing.
        self.assertEqual(raised(self, NoSound, kept.edit, self.ROW[3])["fault"][0], "date")
        self.assertEqual(raised(self, NoRule, kept.edit, self.ROW[2]), {"index": 0})
        kept.would(("grow", ("loop", "left", "y")))
        kept.redo()
        self.assertEqual(kept.edits(), self.ROW[:2])
        kept.undo()
        kept.edit(("grow", ("loop", "left", "y")))
        self.assertEqual(raised(self, Nothing, kept.redo), {})
        kept.undo()
        self.assertEqual(kept.edits(), self.ROW[:1])
        kept.redo()
        self.assertEqual(kept.edits(), self.ROW[:1] + (("grow", ("loop", "left", "y")),))

    def test_to_and_fro(self):
        for seed, dealing in enumerate((PAIR, SALE, LOOPS, TALK)):
            dice, kept, past, later = Dice(seed), Kept(dealing), [((), dealing)], []
            for _ in range(60):
                sort = dice.below(3)
                if sort == 0:
                    thing = some_edit(kept.dealing(), dice)
                    behind = plain_edited(kept.dealing(), thing)
                    if plain_is_sound(behind) and len(behind[1]) < 7:
                        kept.edit(thing)
                        past.append((past[-1][0] + (thing,), behind))
                        later = []
                elif sort == 1 and len(past) > 1:
                    kept.undo()
                    later.append(past.pop())
                elif sort == 2 and later:
                    kept.redo()
                    past.append(later.pop())
                else:
                    self.assertEqual(raised(self, Nothing, kept.undo if sort == 1 else kept.redo), {})
                self.assertEqual((kept.edits(), kept.dealing()), past[-1])


class Equal(unittest.TestCase):
    def test_equal(self):
        one, other = Kept(PAIR), Kept(PAIR)
        self.assertTrue(one == other)
        self.assertFalse(one != other)
        row = TakenBack.ROW
        one.edit(row[0])
        self.assertFalse(one == other)
        other.edit(row[0])
        self.assertTrue(one == other)
        one.edit(row[1])
        one.undo()
        # The DEALINGS and the edits are the same, but not what can be done again.
        self.assertEqual([one.dealing(), one.edits()], [other.dealing(), other.edits()])
        self.assertFalse(one == other)
        other.edit(row[1])
        other.undo()
        self.assertTrue(one == other)
        other.edit(("grow", ("loop", "first", "y")))
        other.undo()
        self.assertFalse(one == other)

    def test_other_edits_to_the_same_dealing(self):
        one, other = Kept(PAIR), Kept(PAIR)
        one.edit(("rule", ("iterate", "left", "m")))
        other.edit(("strike", "left", "m"))
        self.assertEqual(one.dealing(), other.dealing())
        self.assertFalse(one == other)
        # Another DEALING at first does not matter, if all of these are the same.
        two = with_result(PAIR, "left", "m", {"a": "first", "b": "first"})
        some = Kept(two)
        some.edit(("strike", "left", "m"))
        self.assertTrue(some == other)
        some.undo()
        other.undo()
        self.assertFalse(some == other)

    def test_equal_to_nothing_else(self):
        kept = Kept(PAIR)
        for thing in OTHER_KINDS + (PAIR, House(PAIR), kept.edits(), Kept(PLAIN)):
            self.assertFalse(kept == thing)
            self.assertTrue(kept != thing)

    def test_twins_are_independent(self):
        kept = Kept(PAIR)
        kept.edit(TakenBack.ROW[0])
        kept.edit(TakenBack.ROW[1])
        kept.undo()
        twin = kept.twin()
        self.assertIsInstance(twin, Kept)
        self.assertTrue(twin == kept)
        twin.redo()
        self.assertEqual([len(kept.edits()), len(twin.edits())], [1, 2])
        twin.undo()
        self.assertTrue(twin == kept)
        kept.undo()
        self.assertEqual([kept.edits(), twin.edits()], [(), TakenBack.ROW[:1]])
        kept.edit(("grow", ("loop", "left", "y")))
        twin.redo()
        self.assertEqual(twin.edits(), TakenBack.ROW[:2])

    def test_twins_beyond_the_bounds(self):
        kept = Kept(wide(6))
        kept.edit(("grow", ("loop", "first", "zz")))
        self.assertEqual(raised(self, Wrong, Kept, kept.dealing()), {"place": 0})
        self.assertEqual([kept.twin().dealing(), kept.twin() == kept], [kept.dealing(), True])


if __name__ == "__main__":
    unittest.main()
