"""[42]: logs that are cut anywhere, and HOUSES reopened by them."""

import unittest

from partedmeet.dealingtexts import read_dealing
from partedmeet.errors import NoSound, NoText, Wrong
from partedmeet.forms import is_dealing
from partedmeet.homeward import choices
from partedmeet.house import House
from partedmeet.logs import reopened, whole_lines
from partedmeet.sound import fault
from partedmeet.standings import end_standing
from tests.helper import ALONE, BOTH, CROSS, LOST, PLAIN, SALE, STUCK, THREE, Dice, kinds_of, raised, told, variants
from tests.houses import Members, PlainHouse, state_of
from tests.more import LOOPS
from tests.plain import great_dealing
from tests.test_house import sound_ones


TWO = read_dealing("parties a b\nround first a a b\nresult go a last b last\nround last a a b")


def some_log(dealing, dice, most):
    """the log of a house in which so many letters have come"""
    plain = PlainHouse(dealing)
    for _ in range(most):
        plain.ask(*dice.pick(plain.letters()))
    return plain.state()[5]


def plain_column(line, possible):
    """the first sign of the first word with which no possible line goes on, the number of signs if there is none; None if right"""
    if line in possible:
        return None
    column, ahead = 0, ""
    for word in line.split(" "):
        ahead += word
        if not any(other == ahead or other.startswith(ahead + " ") for other in possible):
            return column
        column += len(word) + 1
        ahead += " "
    return len(line)


class WholeLines(unittest.TestCase):
    def test_known_ones(self):
        for text, lines in (
            ("", ()), ("here a", ()), ("here a\n", ("here a",)), ("here a\nhe", ("here a",)), ("\n", ("",)), ("\n\n", ("", "")),
            ("a\n\nb", ("a", "")), (" a \nb\n", (" a ", "b")), ("x" * 8000 + "\n", ("x" * 8000,)),
        ):
            self.assertEqual(told(self, whole_lines, text), lines)


class Reopened(unittest.TestCase):
    def check(self, dealing, text):
        """reopens, and checks the state against a plain house that has read the whole lines"""
        house = reopened(dealing, text)
        plain = PlainHouse(dealing, text.split("\n")[:-1])
        self.assertEqual(kinds_of(state_of(house)), kinds_of(plain.state()))
        self.assertEqual(house.log(), text[: text.rfind("\n") + 1])
        return house

    def check_wrong(self, dealing, text, line, column):
        self.assertEqual(raised(self, NoText, reopened, dealing, text), {"line": line, "column": column})

    def test_cut_at_each_sign(self):
        for seed, dealing in enumerate((BOTH, SALE, LOOPS, PLAIN, ALONE)):
            text = some_log(dealing, Dice(seed), 40)
            for at in range(len(text) + 1):
                house = self.check(dealing, text[:at])
                if at % 5 == 0:
                    members = Members(dealing, house)
                    self.assertTrue(members.go_home(choices(dealing), 60))
                    self.assertEqual(house.standing(), end_standing(dealing))
                    # What it goes on to write can be read again.
                    self.check(dealing, house.log())

    def test_between_a_choice_and_what_it_does(self):
        text = "here a\nchoose a go\nhere b\n"
        for asked in (("a", 0, None), ("b", 0, None), ("a", 0, "go")):
            house = self.check(TWO, text)
            self.assertEqual([house.here(), house.chosen(), house.deeds()], [("a", "b"), {"first": "go"}, ()])
            self.assertEqual(house.ask(*asked), ("done", 0, "first", "go"))
            self.assertEqual(house.log(), text + "done first\n")
        house = self.check(TWO, "here a\nhere b\n")
        self.assertEqual(house.ask("b", 0, None), ("wait", ("a",)))
        self.assertEqual(house.ask("a", 0, None), ("choose", ("go",)))
        self.assertEqual(house.log(), "here a\nhere b\n")

    def test_others_may_go_on_ahead_of_what_was_cut(self):
        # All of `right` are HERE, and there is a CHOICE: that it is done may come later, behind what others have done.
        start = "here c\nhere b\nhere a\nchoose a go\ndone first\nhere c\nchoose c on\n"
        house = self.check(BOTH, start + "here a\nhere b\nchoose a over\ndone left\ndone right\n")
        self.assertEqual(house.deeds(), (("first", "go"), ("left", "over"), ("right", "on")))
        self.check_wrong(BOTH, start + "done left\n", 7, 5)
        self.check_wrong(BOTH, start + "here c\n", 7, 5)

    def test_faults(self):
        for text, line, column in (
            ("\n", 0, 0), ("her a\n", 0, 0), ("hereb a\n", 0, 0), ("choose a go\n", 0, 0), ("done first\n", 0, 0), ("here\n", 0, 4),
            ("here \n", 0, 5), ("here c\n", 0, 5), ("here  a\n", 0, 5), (" here a\n", 0, 0), ("here a \n", 0, 7), ("here a b\n", 0, 7),
            ("here aa\n", 0, 5), ("here a\nhere a\n", 1, 5), ("here a\nhere\n", 1, 4), ("here a\nchoose\n", 1, 6), ("here a\nchoose a\n", 1, 8),
            ("here a\nchoose b\n", 1, 7), ("here a\nchoose b go\n", 1, 7), ("here a\nchoose a no\n", 1, 9), ("here a\nchoose a go x\n", 1, 12),
            ("here b\nchoose a go\n", 1, 0), ("here b\nchoose b go\n", 1, 0), ("here a\ndone first\n", 1, 0),
            ("here a\nchoose a go\nchoose a go\n", 2, 0), ("here a\nchoose a go\ndone first\n", 2, 0), ("here a\nhere b\nhere a\n", 2, 0),
            ("here a\nhere b\ndone first\n", 2, 0), ("here a\nhere b\nchoose a go\ndone\n", 3, 4), ("here a\nhere b\nchoose a go\ndone last\n", 3, 5),
            ("here a\nhere b\nchoose a go\nhere a\n", 3, 0), ("here a\nhere b\nchoose a go\ndone first\nhere a\n", 4, 0),
            ("here a\nhere b\nchoose a go\ndone first\n\nhere a", 4, 0), ("here a\n\nhere b\n", 1, 0), ("Here a\nhere c\n", 0, 0),
        ):
            self.check_wrong(TWO, text, line, column)

    def test_what_is_cut_may_be_anything(self):
        for rest in ("", "x", "done", "here nobody", " "):
            self.check(PLAIN, "here a\n" + rest)

    def test_against_a_plain_one(self):
        """each line of a log exchanged for others: right ones, and wrong ones at each place"""
        counts = [0, 0]
        for seed, dealing in enumerate(sound_ones(30)):
            dice = Dice(seed)
            lines = some_log(dealing, dice, 12).split("\n")[:-1]
            for at in range(len(lines) + 1):
                possible = PlainHouse(dealing, lines[:at]).possible_lines()
                for line in self.tries(lines, possible, dice):
                    text = "".join(row + "\n" for row in lines[:at] + [line])
                    column = plain_column(line, possible)
                    counts[column is None] += 1
                    if column is None:
                        self.check(dealing, text)
                    else:
                        self.check_wrong(dealing, text + dice.pick(["", "here", "here nobody\n"]), at, column)
        self.assertGreater(min(counts), 200)

    def tries(self, lines, possible, dice):
        found = list(possible) + [dice.pick(lines), "", " ", "here", "choose", "done", "done last", "here nobody", "Done first"]
        for line in [dice.pick(lines)] + possible[:2]:
            at = dice.below(len(line))
            found += [line[:at], line[:at] + line[at + 1:], line[:at] + " " + line[at:], line + " x", line + " ", " " + line]
            found += [line.rpartition(" ")[0] + " " + word for word in ("first", "a", "k", "go", "last")]
        return found

    def test_dealings_that_are_not_sound(self):
        for dealing in (CROSS, STUCK, LOST, THREE):
            for text in ("", "here a\n", "nonsense\n"):
                self.assertEqual(raised(self, NoSound, reopened, dealing, text), {"fault": fault(dealing)})

    def test_any_values(self):
        for thing in variants(PLAIN)[:400] + [NoText(1, 2)]:
            if not is_dealing(thing):
                for text in ("", "nonsense\n", None):
                    self.assertEqual(raised(self, Wrong, reopened, thing, text), {"place": 0})
        for thing in (None, True, 0, 10 ** 39, (), ("here a\n",), ["here a\n"], {}, NoText(1, 2)):
            for dealing in (PLAIN, CROSS):
                self.assertEqual(raised(self, Wrong, reopened, dealing, thing), {"place": 1})
        for thing in (House(PLAIN), House):
            with self.assertRaises(Wrong) as caught:
                reopened(thing, thing)
            self.assertEqual(caught.exception.place, 0)

    def test_long_texts(self):
        text = "here a\nhere b\nhere c\nchoose a go\ndone first\n"
        while len(text) < 8950:
            text += "here b\nhere a\nchoose a over\ndone left\n"
        house = self.check(BOTH, text)
        self.assertEqual(len(house.log()), len(text))
        self.check_wrong(BOTH, text + "x" * (8999 - len(text)) + "\n", text.count("\n"), 0)
        self.check_wrong(BOTH, "here " + "a " * 4490 + "\n", 0, 7)
        self.check_wrong(BOTH, "\n" * 9000, 0, 0)

    def test_great_ones(self):
        for seed in range(8):
            dealing = great_dealing(seed)
            self.check(dealing, some_log(dealing, Dice(seed), 150) + "do")


if __name__ == "__main__":
    unittest.main()
