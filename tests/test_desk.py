"""[44]: the DESK."""

import unittest
from unittest import mock

from partedmeet import rulerows
from partedmeet.counted import many_ropes
from partedmeet.dealings import all_deeds
from partedmeet.dealingtexts import dealing_text
from partedmeet.desk import Desk
from partedmeet.errors import NoCommand, NoDeed, NoParty, NoRound, NoRule, NoSound, NoText, Nothing, TooMany, Wrong
from partedmeet.games import can_force
from partedmeet.homeward import home_deeds
from partedmeet.house import House
from partedmeet.kept import Kept
from partedmeet.leastforms import least_form
from partedmeet.runs import run
from partedmeet.sound import fault, is_sound
from partedmeet.standings import deeds_of, first_standing
from partedmeet.together import all_together
from tests.helper import ALONE, BOTH, CROSS, OTHER_KINDS, PLAIN, SALE, Dice, kinds_of, many_dealings, plain_led, raised
from tests.helper import spoil
from tests.more import IDLE, LOOPS
from tests.plain import great_dealing, nested_loops
from tests.test_kept import PAIR
from tests.test_leastforms import LONG
from tests.test_rulerows import wide

QUESTIONS = ("show", "least", "edits", "run", "can", "stand", "together", "ropes", "force")
COMMANDS = {
    "do": 2, "back": 0, "home": 0, "merge": 3, "iterate": 2, "shortcut": 3, "split": 3, "loop": 2, "strike": 2, "turn": 4, "undo": 0,
    "redo": 0, "show": 0, "least": 0, "edits": 0, "run": 0, "can": 0, "stand": 0, "together": 0, "ropes": 0,
}


class Desks(unittest.TestCase):
    def refused(self, desk, error, line, fields):
        """checks what is raised, and that nothing has changed"""
        twin = desk.twin()
        self.assertEqual(raised(self, error, desk.execute, line), fields)
        self.assertTrue(twin == desk)
        self.assertEqual(desk.execute("stand"), twin.execute("stand"))

    def test_it_begins_with_what_is_kept(self):
        desk = Desk(BOTH)
        self.assertEqual([desk.deeds(), desk.kept() == Kept(BOTH), desk.execute("edits")], [(), True, ["0"]])
        self.assertEqual(raised(self, NoSound, Desk, CROSS), {"fault": fault(CROSS)})
        self.assertEqual(raised(self, NoRound, Desk, IDLE), {"name": "lone"})
        self.assertEqual(raised(self, Wrong, Desk, wide(7)), {"place": 0})
        for thing in OTHER_KINDS + (list(PLAIN), PLAIN[:1], dealing_text(PLAIN)):
            self.assertEqual(raised(self, Wrong, Desk, thing), {"place": 0})
        for thing in (Desk(PLAIN), Kept(PLAIN), House(PLAIN)):
            with self.assertRaises(Wrong):
                Desk(thing)

    def test_along_a_run(self):
        desk = Desk(BOTH)
        self.assertEqual([desk.execute("run"), desk.execute("can"), desk.execute("stand")], [[], ["first go"], ["a first", "b first", "c first"]])
        self.refused(desk, NoDeed, "do left on", {"index": 0})
        self.refused(desk, NoDeed, "do first stop", {"index": 0})
        self.refused(desk, NoDeed, "do none go", {"index": 0})
        self.refused(desk, NoDeed, "do last go", {"index": 0})
        self.refused(desk, Nothing, "back", {})
        for line in ("do first go", "do left over", "do right on", "do left over"):
            self.assertEqual(desk.execute(line), ["done"])
        self.assertEqual(desk.execute("run"), ["first go", "left over", "right on", "left over"])
        self.assertEqual([desk.execute("stand"), desk.execute("can")], [["a left", "b left", "c last"], ["left on", "left over"]])
        self.assertEqual([desk.execute("back"), desk.execute("back"), desk.deeds()], [["done"], ["done"], (("first", "go"), ("left", "over"))])
        self.assertEqual(desk.execute("can"), ["left on", "left over", "right on"])
        self.assertEqual([desk.execute("home"), desk.execute("run")], [["done"], ["first go", "left over", "left on", "right on"]])
        self.assertEqual([desk.execute("can"), desk.execute("stand")], [[], ["a last", "b last", "c last"]])
        # At the END it is home: no DEED comes.
        self.assertEqual([desk.execute("home"), len(desk.deeds())], [["done"], 4])
        for _ in range(4):
            self.assertEqual(desk.execute("back"), ["done"])
        self.refused(desk, Nothing, "back", {})

    def test_edits(self):
        desk = Desk(PAIR)
        for line, edit in (
            ("iterate left m", ("rule", ("iterate", "left", "m"))), ("loop left again", ("grow", ("loop", "left", "again"))),
            ("split first l more", ("grow", ("split", "first", "l", "more"))), ("merge first l more", ("rule", ("merge", "first", "l", "more"))),
            ("strike left again", ("strike", "left", "again")), ("shortcut first k left", ("rule", ("shortcut", "first", "k", "left"))),
        ):
            desk.execute("home")
            self.assertNotEqual(desk.deeds(), ())
            kept = desk.kept()
            kept.edit(edit)
            self.assertEqual(desk.execute(line), ["done"])
            self.assertTrue(desk.kept() == kept)
            self.assertEqual([desk.deeds(), desk.execute("stand")], [(), ["a first", "b first"]])
        self.assertEqual(desk.execute("edits"), ["6"])
        desk.execute("home")
        self.assertEqual([desk.execute("undo"), desk.deeds(), desk.execute("edits")], [["done"], (), ["5"]])
        desk.execute("home")
        self.assertEqual([desk.execute("redo"), desk.deeds(), desk.execute("edits")], [["done"], (), ["6"]])

    def test_turn(self):
        desk = Desk(LOOPS)
        kept = desk.kept()
        kept.edit(("turn", "side", "loop", "c", "last"))
        self.assertEqual(desk.execute("turn side loop c last"), ["done"])
        self.assertTrue(desk.kept() == kept)

    def test_what_edits_raise(self):
        desk = Desk(PAIR)
        desk.execute("do first k")
        for line in ("merge first k l", "iterate left n", "shortcut first l last", "split first k l", "loop last x", "strike none k",
                     "strike first none", "turn first k a left", "turn first k c last", "turn first k a none", "shortcut first k none"):
            self.refused(desk, NoRule, line, {"index": 0})
        self.refused(desk, NoSound, "strike left n", {"fault": ("lost", "left")})
        self.refused(desk, NoSound, "turn first k a last", {"fault": ("date", "first", "k", "a", "b")})
        self.refused(desk, Nothing, "undo", {})
        self.refused(desk, Nothing, "redo", {})
        self.assertEqual(desk.deeds(), (("first", "k"),))

    def test_too_many_results(self):
        desk = Desk(nested_loops(22))
        letters = "abcdefghijklmnopqrstuvwxyz"
        many = len(all_deeds(nested_loops(22)))
        for word in [one + other for one in letters for other in letters][: 400 - many]:
            desk.execute("split first on x" + word)
        self.refused(desk, TooMany, "loop first more", {"most": 400})
        self.assertEqual(desk.twin().execute("edits"), [str(400 - many)])

    def test_questions(self):
        cases = [PAIR, LONG, BOTH, SALE, PLAIN, ALONE, LOOPS, great_dealing(7)] + many_dealings(60)
        for seed, dealing in enumerate(cases):
            if is_sound(dealing) and plain_led(dealing) == [part[0] for part in dealing[1]]:
                self.check_questions(dealing, Dice(seed))

    def check_questions(self, dealing, dice):
        desk = Desk(dealing)
        for _ in range(dice.below(5)):
            can = desk.execute("can")
            if can:
                desk.execute("do " + dice.pick(can))
        standing = run(dealing, first_standing(dealing), desk.deeds())
        self.assertEqual(desk.execute("show"), dealing_text(dealing).split("\n"))
        self.assertEqual(desk.execute("least"), dealing_text(least_form(dealing)).split("\n"))
        self.assertEqual(desk.execute("run"), [f"{name} {word}" for name, word in desk.deeds()])
        self.assertEqual(desk.execute("can"), [f"{name} {word}" for name, word in deeds_of(dealing, standing)])
        self.assertEqual(desk.execute("stand"), [f"{party} {name}" for party, name in standing])
        self.assertEqual(desk.execute("together"), [f"{one} {other}" for one, other in all_together(dealing)])
        many = many_ropes(dealing)
        self.assertEqual(desk.execute("ropes"), ["endless" if many is None else str(many)])
        ours = tuple(sorted(dice.some(dealing[0])))
        self.assertEqual(desk.execute(" ".join(["force"] + dice.shuffled(ours))), ["yes" if can_force(dealing, ours) else "no"])
        self.assertEqual(desk.execute("force"), ["yes" if can_force(dealing, ()) else "no"])
        ahead = desk.deeds()
        desk.execute("home")
        self.assertEqual(desk.deeds(), ahead + home_deeds(dealing, standing))
        self.assertEqual(desk.execute("can"), [])

    def test_ropes_and_the_least_form(self):
        self.assertEqual([Desk(SALE).execute("ropes"), Desk(BOTH).execute("ropes"), Desk(ALONE).execute("ropes")], [["3"], ["endless"], ["1"]])
        self.assertEqual(Desk(LONG).execute("least")[1:4], ["round a q p q", "result no p a q a", "result yes p last q last"])
        self.assertEqual(len(Desk(LONG).execute("show")), 10)

    def test_ropes_raises_what_many_ropes_does(self):
        for dealing in (SALE, BOTH):
            desk = Desk(dealing)
            with mock.patch.object(rulerows, "MOST_RESULTS", 2):
                self.refused(desk, TooMany, "ropes", {"most": 2})
                self.assertEqual(raised(self, TooMany, desk.kept().rows), {"most": 2})

    def test_force(self):
        desk = Desk(BOTH)
        self.assertEqual([desk.execute("force " + row) for row in ("a", "b", "c", "c a", "b  c a")], [["yes"], ["no"], ["no"], ["yes"], ["yes"]])
        self.refused(desk, NoParty, "force a d", {"name": "d"})
        self.refused(desk, NoParty, "force z a d", {"name": "z"})
        self.refused(desk, NoParty, "force first", {"name": "first"})
        # What is told twice comes ahead of what is no party.
        for line in ("force a a", "force d d", "force d a b d", "force a d a"):
            self.refused(desk, NoCommand, line, {"line": line})

    def test_blanks(self):
        desk = Desk(BOTH)
        for line in ("do first go", " do first go", "do first go ", "   do    first  go     "):
            self.assertEqual([desk.execute(line), desk.deeds()], [["done"], (("first", "go"),)])
            self.assertEqual([desk.execute("  back "), desk.deeds()], [["done"], ()])
        self.assertEqual(desk.execute("  force   a  "), ["yes"])
        self.assertEqual(desk.execute(" " * 4000 + "can" + " " * 4000), ["first go"])

    def test_lines_that_are_none(self):
        desk = Desk(BOTH)
        desk.execute("do first go")
        lines = [
            "", " ", "\n", "doo first go", "Do first go", "do", "do first", "do first go now", "do First go", "do first GO", "do first go\n",
            "do first\ngo", "\ndo first go", "do\nfirst go", "show\n", "\nshow", "show show", "back x", "home 1", "force A", "force a,b",
            "force a\n", "force a\nb", "force abcdefghijklm", "merge first k", "merge first k l m", "turn left on a", "turn left on a last x",
            "undo 1", "redo redo", "rule left over", "drop left", "fold left", "grow loop left x", "1", "-", "do first g-o", "x" * 9000,
            "do abcdefghijklm go", "stand.", "strike left", "loop left", "split left on", "iterate left", "shortcut left on", "do 'first' go",
        ]
        for line in lines:
            self.refused(desk, NoCommand, line, {"line": line})

    def test_each_command_takes_just_so_many_names(self):
        desk = Desk(BOTH)
        for head, many in COMMANDS.items():
            for wrong in range(7):
                line = " ".join([head] + ["none"] * wrong)
                if wrong != many:
                    self.refused(desk, NoCommand, line, {"line": line})
                elif many:
                    self.refused(desk, NoDeed if head == "do" else NoRule, line, {"index": 0})
            for wrong in ("A", "a1", "-", "abcdefghijklm"):
                line = " ".join([head] + ["none"] * (many - 1) + [wrong])
                self.refused(desk, NoCommand, line, {"line": line})

    def test_any_values(self):
        desk = Desk(BOTH)
        for thing in OTHER_KINDS + (("show",), ["show"], {"show": 1}, NoText(1, 2), (("first", "go"),)):
            if not isinstance(thing, str):
                self.refused(desk, Wrong, thing, {"place": 0})
        for thing in (desk, desk.kept(), House(PLAIN)):
            with self.assertRaises(Wrong) as caught:
                desk.execute(thing)
            self.assertEqual(caught.exception.place, 0)

    def test_what_it_answers_is_new(self):
        desk = Desk(BOTH)
        desk.execute("do first go")
        for line in QUESTIONS + ("do left over", "back"):
            before = kinds_of(desk.twin().execute(line))
            found = desk.twin().execute(line)
            spoil(found)
            self.assertEqual(kinds_of(desk.twin().execute(line)), before)
            self.assertTrue(all(isinstance(row, str) for row in found))
            found = desk.execute(line)
            spoil(found)
            self.assertEqual(kinds_of(desk.execute(line)) if line in QUESTIONS else before, before)

    def test_questions_change_nothing(self):
        desk = Desk(SALE)
        desk.execute("strike deal off")
        desk.execute("undo")
        desk.execute("do first ask")
        twin = desk.twin()
        for line in QUESTIONS:
            desk.execute(line)
            self.assertTrue(desk == twin)
        # What it hands out is a twin.
        desk.kept().redo()
        self.assertTrue(desk == twin)

    def test_equal(self):
        one, other = Desk(BOTH), Desk(BOTH)
        self.assertTrue(one == other)
        one.execute("do first go")
        self.assertFalse(one == other)
        self.assertTrue(one != other)
        one.execute("back")
        self.assertTrue(one == other)
        one.execute("loop right more")
        self.assertFalse(one == other)
        one.execute("undo")
        # The same DEALING, but one of them could do something again.
        self.assertFalse(one == other)
        other.execute("loop right more")
        other.execute("undo")
        self.assertTrue(one == other)
        for thing in OTHER_KINDS + (BOTH, one.kept(), House(BOTH), Desk(SALE)):
            self.assertFalse(one == thing)
            self.assertTrue(one != thing)

    def test_twins_are_independent(self):
        desk = Desk(BOTH)
        desk.execute("do first go")
        twin = desk.twin()
        self.assertIsInstance(twin, Desk)
        twin.execute("do left on")
        twin.execute("do right on")
        self.assertEqual([desk.deeds(), desk.execute("stand")], [(("first", "go"),), ["a left", "b left", "c right"]])
        twin.execute("loop right more")
        self.assertEqual([desk.execute("edits"), twin.execute("edits")], [["0"], ["1"]])
        desk.execute("home")
        self.assertEqual([len(desk.deeds()), twin.deeds()], [3, ()])
        desk.kept().edit(("grow", ("loop", "right", "more")))
        self.assertEqual(desk.execute("edits"), ["0"])

    def test_long_runs(self):
        desk = Desk(BOTH)
        desk.execute("do first go")
        for _ in range(450):
            desk.execute("do left over")
        self.assertEqual([len(desk.deeds()), len(desk.execute("run"))], [451, 451])
        self.assertEqual([desk.execute("home"), desk.execute("can"), len(desk.deeds())], [["done"], [], 453])


if __name__ == "__main__":
    unittest.main()
