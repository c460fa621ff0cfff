"""[15]: DEALINGS as texts."""

import unittest

from partedmeet.dealingtexts import dealing_text, read_dealing
from partedmeet.errors import NoDealing, NoText, Wrong
from tests.helper import BOTH, OTHER_KINDS, PLAIN, SALE, Dice, many_dealings, raised, some_dealing, told

SALE_TEXT = """parties bank buyer seller
round deal seller buyer seller
result cash buyer last seller last
result off buyer last seller last
round first buyer bank buyer seller
result ask bank loan buyer loan seller deal
result leave bank last buyer last seller last
round last bank bank buyer seller
round loan bank bank buyer
result grant bank last buyer deal"""


def loose_text(text, dice):
    """the text with rounds, results and couples in any order, more blanks, and empty lines"""
    lines = [line.split(" ") for line in text.split("\n")]
    blocks = []
    for words in lines[1:]:
        if words[0] == "round":
            blocks.append([words[:3] + dice.shuffled(words[3:])])
        else:
            couples = dice.shuffled(list(zip(words[2::2], words[3::2])))
            blocks[-1].append(words[:2] + [word for couple in couples for word in couple])
    rows = [["parties"] + dice.shuffled(lines[0][1:])]
    for block in dice.shuffled(blocks):
        rows += block[:1] + dice.shuffled(block[1:])
    found = []
    for row in rows:
        found += [" " * dice.below(3)] * dice.below(3)
        line = " " * dice.below(3) + row[0]
        for word in row[1:]:
            line += " " * (1 + dice.below(3)) + word
        found.append(line + " " * dice.below(3))
    return "\n".join(found + [" "] * dice.below(2))


class Told(unittest.TestCase):
    def test_the_sale(self):
        self.assertEqual(told(self, dealing_text, SALE), SALE_TEXT)
        self.assertEqual(told(self, read_dealing, SALE_TEXT), SALE)

    def test_there_and_back(self):
        for dealing in many_dealings(80):
            text = told(self, dealing_text, dealing)
            self.assertEqual(told(self, read_dealing, text), dealing)
            self.assertFalse(text.endswith("\n"))
            self.assertNotIn("  ", text)

    def test_any_order_more_blanks_and_empty_lines(self):
        dice = Dice(15)
        for seed in range(80):
            dealing = some_dealing(seed)
            text = loose_text(dealing_text(dealing), dice)
            self.assertEqual(told(self, read_dealing, text), dealing, text)
        self.assertEqual(read_dealing("\n \n\n" + dealing_text(BOTH).replace("\n", "\n  \n") + "\n\n"), BOTH)

    def test_heads_are_names_too(self):
        text = "parties parties\nround first parties parties\nresult result parties round\n"
        text = text + "round round parties parties\nresult round parties last\nround last parties parties"
        dealing = read_dealing(text)
        self.assertEqual(dealing[0], ("parties",))
        self.assertEqual([part[0] for part in dealing[1]], ["first", "last", "round"])
        self.assertEqual(dealing_text(dealing).split("\n")[2], "result result parties round")


class NotRead(unittest.TestCase):
    def check(self, line, column, text):
        self.assertEqual(raised(self, NoText, read_dealing, text), {"line": line, "column": column}, text)

    def test_no_string(self):
        for thing in OTHER_KINDS + (SALE, [SALE_TEXT], (SALE_TEXT,), {SALE_TEXT: SALE_TEXT}, b"parties a"):
            if not isinstance(thing, str):
                self.assertEqual(raised(self, Wrong, read_dealing, thing), {"place": 0})

    def test_no_words(self):
        for text in ("", "\n", "   ", " \n\n  \n", "\n" * 9000):
            self.check(0, 0, text)

    def test_heads(self):
        self.check(0, 0, "round first a a")
        self.check(0, 0, "result go a last")
        self.check(0, 0, "party a")
        self.check(0, 2, "  a parties")
        self.check(2, 1, "\n\n Parties a")
        self.check(1, 0, "parties a\nparties a")
        self.check(1, 0, "parties a\nresult go a last\nround first a a")
        self.check(2, 3, "parties a\n\n   results")
        self.check(2, 0, "parties a\nround first a a\nparties a")
        self.check(1, 0, "parties a\nROUND first a a")
        self.check(1, 0, "parties a\nround, first a a")

    def test_words_that_are_no_names(self):
        self.check(0, 8, "parties A b")
        self.check(0, 12, "parties a   ~ B")
        self.check(0, 8, "parties " + "a" * 13)
        self.check(0, 8, "parties a,b")
        self.check(1, 6, "parties a\nround fir5t a a\nround")
        self.check(1, 12, "parties a\nround first A a")
        self.check(1, 15, "parties a\nround first a  ab3 a")
        self.check(2, 7, "parties a\nround first a a\nresult Go")
        self.check(2, 10, "parties a\nround first a a\nresult go # last")
        self.check(2, 12, "parties a\nround first a a\nresult go a - b")
        self.check(0, 8, "parties a\tb")

    def test_words_that_are_lacking(self):
        self.check(1, 5, "parties a\nround")
        self.check(1, 8, "parties a\n round  ")
        self.check(1, 11, "parties a\nround first")
        self.check(1, 13, "parties a\nround first  \nresult")
        self.check(2, 6, "parties a\nround first a a\nresult")
        self.check(2, 11, "parties a\nround first a a\nresult go a")
        self.check(2, 22, "parties a\nround first a a\nresult go a last  b   ")

    def test_the_first_place_comes_first(self):
        self.check(1, 12, "parties a\nround first 1\nROUND")
        self.check(2, 7, "parties a\nround first a a\nresult 1 a")
        self.check(0, 10, "parties a 1\n")
        self.check(1, 5, "parties\nround\nresult")

    def test_no_text_comes_ahead_of_no_dealing(self):
        self.check(3, 0, "parties a a\nround first a\nround first a\nend")

    def test_no_dealing(self):
        for text, fault in (
            ("parties", ("parties",)),
            ("parties a a", ("parties",)),
            ("parties a", ("no", "first")),
            ("parties a\nround first a\nround last a a", ("lot", "first")),
            ("parties a\nround first a a\nround last a a\nround first a a", ("twice", "first")),
            ("parties a\nround first b a\nround last a a", ("chooser", "first")),
            ("parties a\nround first a a\nround last a a", ("results", "first")),
            ("parties a\nround first a a\nresult go\nround last a a", ("nexts", "first", "go")),
            ("parties a\nround first a a\nresult go a last a last\nround last a a", ("nexts", "first", "go")),
            ("parties a\nround first a a\nresult go a x\nround last a a", ("next", "first", "go", "a")),
            ("parties a\nround first a a\nresult go a x\nresult go a x\nround last a a", ("word", "first", "go")),
        ):
            self.assertEqual(raised(self, NoDealing, read_dealing, text), {"fault": fault}, text)

    def test_cut_and_changed_texts_are_read_or_told_wrong(self):
        text = dealing_text(PLAIN)
        counts = {}
        for at in range(len(text) + 1):
            for changed in (text[:at], text[:at] + text[at + 1:], text[:at] + "A" + text[at:], text[:at] + "\n" + text[at:]):
                try:
                    read_dealing(changed)
                    kind = "read"
                except (NoText, NoDealing) as error:
                    kind = type(error).__name__
                    if kind == "NoText":
                        line = changed.split("\n")[error.line]
                        starts_word = line[error.column:error.column + 1] not in ("", " ")
                        follows_blank = error.column == 0 or line[error.column - 1] == " "
                        self.assertTrue(error.column == len(line) or starts_word and follows_blank)
                counts[kind] = counts.get(kind, 0) + 1
        self.assertEqual(set(counts), {"read", "NoText", "NoDealing"})


if __name__ == "__main__":
    unittest.main()
