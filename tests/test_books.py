"""[40]: BOOKS, and MEMBERS who know their own BOOK alone."""

import unittest

from partedmeet.books import book_of, books, heard, joined, letter, member_at_first, place, words_at
from partedmeet.dealings import chooser_of, lot_of, words_of
from tests.helper import ALONE, BOTH, CROSS, FIXED, PLAIN, SALE, Dice, many_dealings, plain_lots, plain_nexts, told
from tests.more import IDLE, LOOPS, plain_run, some_run
from tests.plain import great_dealing

GO_BOOK = (
    ("first", "a", ("a", "b", "c"), (("go", "right"),)), ("last", "a", ("a", "b", "c"), ()), ("right", "c", ("c",), (("on", "last"),)),
)


def plain_book(dealing, party):
    nexts = plain_nexts(dealing)
    found = []
    for name, lot in plain_lots(dealing).items():
        if party in lot:
            lines = sorted((word, places[party]) for (at, word), places in nexts.items() if at == name)
            found.append((name, chooser_of(dealing, name), lot, tuple(lines)))
    return tuple(sorted(found))


class Books(unittest.TestCase):
    def test_known_ones(self):
        self.assertEqual(told(self, book_of, BOTH, "c"), GO_BOOK)
        self.assertEqual(told(self, book_of, ALONE, "p"), (("first", "p", ("p",), (("go", "last"),)), ("last", "p", ("p",), ())))
        self.assertEqual(list(told(self, books, BOTH)), ["a", "b", "c"])
        # Of rounds that are not LED, too.
        self.assertEqual([page[0] for page in told(self, book_of, IDLE, "c")], ["first", "last", "side"])
        self.assertEqual(told(self, book_of, IDLE, "c")[2], ("side", "c", ("c",), (("on", "side"),)))

    def test_against_plain_ones(self):
        for dealing in list(FIXED) + [LOOPS, IDLE] + many_dealings(60) + [great_dealing(seed) for seed in range(8)]:
            found = told(self, books, dealing)
            self.assertEqual(found, {party: plain_book(dealing, party) for party in dealing[0]})
            self.assertEqual(list(found), list(dealing[0]))
            for party in dealing[0]:
                self.assertEqual(told(self, book_of, dealing, party), found[party])

    def test_joined(self):
        for seed, dealing in enumerate(list(FIXED) + [LOOPS, IDLE] + many_dealings(60) + [great_dealing(seed) for seed in range(8)]):
            found = books(dealing)
            self.assertEqual(told(self, joined, found), dealing)
            other = {party: found[party] for party in Dice(seed).shuffled(dealing[0])}
            self.assertEqual(told(self, joined, other), dealing)


class Members(unittest.TestCase):
    def test_at_first(self):
        member = told(self, member_at_first, BOTH, "c")
        self.assertEqual(member, ("c", GO_BOOK, ()))
        self.assertEqual(told(self, place, member), "first")
        self.assertEqual(told(self, words_at, member), ())
        self.assertEqual(told(self, words_at, member_at_first(BOTH, "a")), ("go",))
        self.assertEqual(told(self, letter, member, None), ("c", 0, None))
        self.assertEqual(told(self, letter, member_at_first(BOTH, "a"), "go"), ("a", 0, "go"))

    def test_what_it_hears(self):
        member = told(self, heard, member_at_first(BOTH, "c"), ("done", 0, "first", "go"))
        self.assertEqual(member, ("c", GO_BOOK, (("first", "go"),)))
        self.assertEqual([place(member), words_at(member), letter(member, "on")], ["right", ("on",), ("c", 1, "on")])
        for answer in (("ahead",), ("end",), ("wait", ("a", "b")), ("choose", ("on",)), ("done", 0, "first", "go"), ("done", 2, "right", "on")):
            self.assertEqual(told(self, heard, member, answer), member)
        member = told(self, heard, member, ("done", 1, "right", "on"))
        self.assertEqual(member[2], (("first", "go"), ("right", "on")))
        self.assertEqual([place(member), words_at(member), letter(member, None)], ["last", (), ("c", 2, None)])
        self.assertEqual(told(self, heard, member, ("end",)), member)

    def test_last_has_no_words_even_for_its_chooser(self):
        for dealing, party in ((PLAIN, "a"), (ALONE, "p"), (SALE, "bank")):
            member = (party, book_of(dealing, party), (("first", words_of(dealing, "first")[-1]),))
            self.assertEqual([chooser_of(dealing, "last"), place(member), words_at(member)], [party, "last", ()])

    def test_along_runs(self):
        many = 0
        for seed, dealing in enumerate([LOOPS, BOTH, CROSS] + many_dealings(80) + [great_dealing(seed) for seed in range(8)]):
            deeds = some_run(dealing, Dice(seed), 12)
            standing = dict(plain_run(dealing, deeds))
            for party in dealing[0]:
                member = member_at_first(dealing, party)
                for name, word in deeds:
                    if party in lot_of(dealing, name):
                        self.assertEqual(place(member), name)
                        member = told(self, heard, member, ("done", len(member[2]), name, word))
                        many += 1
                here = told(self, place, member)
                self.assertEqual(here, standing[party])
                wanted = words_of(dealing, here) if chooser_of(dealing, here) == party else ()
                self.assertEqual(told(self, words_at, member), wanted)
                self.assertEqual(told(self, letter, member, None), (party, len(member[2]), None))
        self.assertGreater(many, 500)

    def test_a_long_row(self):
        member = ("a", book_of(BOTH, "a"), (("first", "go"),) + (("left", "over"),) * 400)
        self.assertEqual([place(member), words_at(member), letter(member, None)], ["left", ("on", "over"), ("a", 401, None)])


if __name__ == "__main__":
    unittest.main()
