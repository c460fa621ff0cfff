"""[13], [14]: DEALINGS looked at, and made."""

import unittest

from partedmeet.dealings import (
    all_deeds,
    chooser_of,
    dealing_fault,
    lot_of,
    made_dealing,
    next_of,
    nexts_of,
    parties_of,
    rounds_of,
    rounds_with,
    wants,
    with_result,
    with_round,
    without_result,
    without_round,
    words_of,
)
from partedmeet.errors import NoDealing, NoRound, Nothing
from partedmeet.forms import is_dealing
from tests.helper import ALONE, BOTH, FIXED, PLAIN, SALE, Dice, many_dealings, raised, some_dealing, told

ENDS = [("first", ("a", "b"), "a", [("go", [("a", "last"), ("b", "last")])]), ("last", ("a", "b"), "a", [])]


def plain_faults(parties, rounds):
    """all faults, each sort in order, as [14] tells them one by one"""
    names = [part[0] for part in rounds]
    lots = {part[0]: part[1] for part in rounds}
    sorts = [[] for _ in range(9)]
    if not parties or len(parties) != len(set(parties)):
        sorts[0].append(("parties",))
    for name, lot, chooser, results in rounds:
        if names.count(name) != 1:
            sorts[1].append(("twice", name))
        full = name in ("first", "last") and not set(parties) <= set(lot)
        if not lot or len(lot) != len(set(lot)) or not set(lot) <= set(parties) or full:
            sorts[3].append(("lot", name))
        if chooser not in lot:
            sorts[4].append(("chooser", name))
        if bool(results) != (name != "last"):
            sorts[5].append(("results", name))
        words = [word for word, _ in results]
        for word, nexts in results:
            if words.count(word) != 1:
                sorts[6].append(("word", name, word))
            told_parties = [party for party, _ in nexts]
            if set(told_parties) != set(lot) or len(told_parties) != len(set(told_parties)):
                sorts[7].append(("nexts", name, word))
            for party, there in nexts:
                if there not in lots or party not in lots[there]:
                    sorts[8].append(("next", name, word, party))
    for name in ("first", "last"):
        if name not in names:
            sorts[2].append(("no", name))
    return sorts


def plain_fault(parties, rounds):
    for sort in plain_faults(parties, rounds):
        if sort:
            return min(sort)
    return None


def loose_parts(dealing):
    """parties and rounds as lists all through"""
    rounds = [[n, list(l), c, [[w, [list(p) for p in ps]] for w, ps in rs]] for n, l, c, rs in dealing[1]]
    return list(dealing[0]), rounds


def tight(rounds, dice):
    """rounds as tuples in lists or tuples, in any order"""
    found = []
    for name, lot, chooser, results in rounds:
        told_results = []
        for word, nexts in results:
            pairs = dice.shuffled([tuple(pair) for pair in nexts])
            told_results.append((word, tuple(pairs) if dice.below(2) else pairs))
        told_results = dice.shuffled(told_results)
        lot = dice.shuffled(lot)
        found.append((name, tuple(lot) if dice.below(2) else lot, chooser, told_results))
    found = dice.shuffled(found)
    return tuple(found) if dice.below(2) else found


def broken(dealing, dice):
    """parts of a DEALING in which some few things were exchanged, left out or doubled"""
    parties, rounds = loose_parts(dealing)
    for _ in range(1 + dice.below(3)):
        part = dice.pick(rounds)
        result = dice.pick(part[3]) if part[3] else None
        fault = dice.below(14)
        if fault == 0 and dice.below(3) == 0:
            parties.append(dice.pick(parties))
        if fault == 1 and dice.below(3) == 0:
            parties.remove(dice.pick(parties))
        if fault == 2:
            rounds.append(list(dice.pick(rounds)))
        if fault == 3 and len(rounds) > 1:
            rounds.remove(part)
        if fault == 4 and part[1]:
            part[1].pop()
        if fault == 5:
            part[1].append(dice.pick(["a", "b", "c", "d"]))
        if fault == 6:
            part[2] = dice.pick(["a", "b", "c", "d"])
        if fault == 7:
            part[3] = []
        if fault == 8:
            part[3].append(["k", [[party, "last"] for party in part[1]]])
        if fault == 9 and result:
            result[0] = dice.pick(["k", "l"])
        if fault == 10 and result and result[1]:
            result[1].pop()
        if fault == 11 and result:
            result[1].append([dice.pick(["a", "b", "c", "d"]), "last"])
        if fault >= 12 and result and result[1]:
            dice.pick(result[1])[1] = dice.pick(["first", "last", "r", "s", "t", "u", "x"])
    return parties, tight(rounds, dice)


class LookedAt(unittest.TestCase):
    def test_the_sale(self):
        self.assertEqual(told(self, parties_of, SALE), ("bank", "buyer", "seller"))
        self.assertEqual(told(self, rounds_of, SALE), ("deal", "first", "last", "loan"))
        self.assertEqual(told(self, lot_of, SALE, "deal"), ("buyer", "seller"))
        self.assertEqual(told(self, chooser_of, SALE, "deal"), "seller")
        self.assertEqual(told(self, words_of, SALE, "first"), ("ask", "leave"))
        self.assertEqual(told(self, words_of, SALE, "last"), ())
        self.assertEqual(told(self, nexts_of, SALE, "first", "ask"), {"bank": "loan", "buyer": "loan", "seller": "deal"})
        self.assertEqual(told(self, next_of, SALE, "first", "ask", "seller"), "deal")
        self.assertIs(told(self, wants, SALE, "loan", "buyer"), True)
        self.assertIs(told(self, wants, SALE, "loan", "seller"), False)
        self.assertEqual(told(self, rounds_with, SALE, "seller"), ("deal", "first", "last"))
        deeds = (("deal", "cash"), ("deal", "off"), ("first", "ask"), ("first", "leave"), ("loan", "grant"))
        self.assertEqual(told(self, all_deeds, SALE), deeds)

    def test_against_the_tuples_themselves(self):
        for dealing in many_dealings(40):
            parties, rounds = dealing
            self.assertEqual(told(self, parties_of, dealing), parties)
            self.assertEqual(told(self, rounds_of, dealing), tuple(sorted(part[0] for part in rounds)))
            deeds = []
            for name, lot, chooser, results in rounds:
                self.assertEqual(lot_of(dealing, name), lot)
                self.assertEqual(chooser_of(dealing, name), chooser)
                self.assertEqual(words_of(dealing, name), tuple(word for word, _ in results))
                for party in parties:
                    self.assertIs(wants(dealing, name, party), party in lot)
                for word, nexts in results:
                    deeds.append((name, word))
                    found = told(self, nexts_of, dealing, name, word)
                    self.assertEqual(list(found), sorted(found))
                    self.assertEqual(tuple(found.items()), nexts)
                    for party, there in nexts:
                        self.assertEqual(next_of(dealing, name, word, party), there)
            self.assertEqual(told(self, all_deeds, dealing), tuple(sorted(deeds)))
            for party in parties:
                wanted = tuple(name for name, lot, _, _ in rounds if party in lot)
                self.assertEqual(told(self, rounds_with, dealing, party), wanted)


class Faults(unittest.TestCase):
    def check(self, wanted, parties, rounds):
        self.assertEqual(told(self, dealing_fault, parties, rounds), wanted)
        self.assertEqual(plain_fault(parties, rounds), wanted)
        if wanted is None:
            self.assertTrue(is_dealing(told(self, made_dealing, parties, rounds)))
        else:
            self.assertEqual(raised(self, NoDealing, made_dealing, parties, rounds), {"fault": wanted})

    def test_each_sort(self):
        both = ["b", "a"]
        last = ("last", both, "a", [])
        end = [("b", "last"), ("a", "last")]
        first = ("first", both, "a", [("go", end)])
        self.check(None, both, [last, first])
        self.check(None, ("a", "b"), (first, last))
        self.check(("parties",), [], [last, first])
        self.check(("parties",), (), ())
        self.check(("parties",), ["a", "b", "a"], [])
        self.check(("twice", "first"), both, [last, first, first, last])
        self.check(("twice", "last"), both, [last, first, last])
        self.check(("twice", "x"), both, [("x", ["a"], "a", []), ("x", ["a"], "a", [])])
        self.check(("no", "first"), both, [])
        self.check(("no", "first"), both, [last])
        self.check(("no", "last"), both, [first])
        self.check(("lot", "x"), both, ENDS + [("x", [], "a", [("go", [])])])
        self.check(("lot", "x"), both, ENDS + [("x", ["a", "a"], "a", [("go", [("a", "last")])])])
        self.check(("lot", "x"), both, ENDS + [("x", ["a", "c"], "a", [("go", [("a", "last")])])])
        self.check(("lot", "first"), both, [("first", ["a"], "a", [("go", [("a", "last")])]), last])
        self.check(("lot", "last"), both, [first, ("last", ["b"], "b", [])])
        self.check(("chooser", "last"), both, [first, ("last", both, "c", [])])
        self.check(("chooser", "x"), both, ENDS + [("x", ["b"], "a", [])])
        self.check(("results", "last"), both, [first, ("last", both, "a", [("go", end)])])
        self.check(("results", "first"), both, [("first", both, "a", []), last])
        self.check(("word", "first", "go"), both, [("first", both, "a", [("go", end), ("go", end)]), last])
        self.check(("nexts", "first", "go"), both, [("first", both, "a", [("go", end[1:])]), last])
        self.check(("nexts", "first", "go"), both, [("first", both, "a", [("go", end + end[1:])]), last])
        self.check(("nexts", "first", "go"), both, [("first", both, "a", [("go", end + [("c", "last")])]), last])
        self.check(("nexts", "first", "go"), both, [("first", both, "a", [("go", end[1:] * 2)]), last])
        self.check(("nexts", "first", "go"), both, [("first", both, "a", [("go", [])]), last])
        self.check(("next", "first", "go", "a"), both, [("first", both, "a", [("go", end[:1] + [("a", "x")])]), last])
        one = ("x", ["b"], "b", [("on", [("b", "last")])])
        self.check(None, both, [first, last, one])
        wrong = ("first", both, "a", [("go", [("a", "x"), ("b", "x")])])
        self.check(("next", "first", "go", "a"), both, [wrong, last, one])

    def test_of_several_the_first_sort_and_of_one_sort_the_least(self):
        end = [("b", "last"), ("a", "last")]
        last = ("last", ["a", "b"], "a", [])
        first = ("first", ["a", "b"], "a", [("go", end)])
        none = [("y", [], "c", []), ("x", ["c"], "d", [])]
        self.check(("lot", "x"), ["a", "b"], [first, last] + none)
        self.check(("no", "last"), ["a", "b"], [first] + none)
        self.check(("chooser", "x"), ["a", "b"], [first, last, ("y", ["a"], "b", []), ("x", ["a"], "b", [])])
        self.check(("results", "x"), ["a", "b"], [first, last, ("y", ["a"], "a", []), ("x", ["a"], "a", [])])
        pair = [("a", "no")]
        two = ("y", ["a"], "a", [("z", pair), ("o", pair), ("z", pair), ("o", pair)])
        self.check(("word", "y", "o"), ["a", "b"], [two, first, last, ("z", ["a"], "a", [("a", []), ("a", [])])])
        self.check(("nexts", "y", "o"), ["a", "b"], [first, last, ("y", ["a"], "a", [("z", []), ("p", pair), ("o", [])])])
        wild = [("y", ["b", "a"], "a", [("z", [("b", "no"), ("a", "no")]), ("o", [("b", "no"), ("a", "last")])])]
        self.check(("next", "y", "o", "b"), ["a", "b"], [first, last] + wild)

    def test_broken_ones_against_all_faults(self):
        dice = Dice(14)
        seen = {}
        for seed in range(1200):
            parties, rounds = broken(some_dealing(seed), dice)
            fault = plain_fault(parties, rounds)
            seen[fault and fault[0]] = seen.get(fault and fault[0], 0) + 1
            self.check(fault, parties, rounds)
        sorts = (None, "parties", "twice", "no", "lot", "chooser", "results", "word", "nexts", "next")
        self.assertEqual(set(seen), set(sorts))
        self.assertGreater(min(seen.values()), 9)

    def test_names_of_1_and_12_letters(self):
        name = "m" * 12
        both = [("first", [name], name, [(name, [(name, "last")])]), ("last", [name], name, [])]
        self.check(None, [name], both)
        self.check(None, [name], both + [(name, [name], name, [("m", [(name, name)])])])
        self.check(None, [name], both + [("m", [name], name, [("m", [(name, "m")])])])


class Made(unittest.TestCase):
    def test_any_order(self):
        dice = Dice(3)
        for dealing in many_dealings(60):
            parties, rounds = loose_parts(dealing)
            self.assertEqual(told(self, made_dealing, dice.shuffled(parties), tight(rounds, dice)), dealing)

    def test_with_round(self):
        loan = ("loan", ["buyer", "bank"], "buyer", [("no", [("buyer", "last"), ("bank", "last")])])
        changed = told(self, with_round, SALE, loan)
        self.assertTrue(is_dealing(changed))
        self.assertEqual(rounds_of(changed), rounds_of(SALE))
        self.assertEqual([chooser_of(changed, "loan"), words_of(changed, "loan")], ["buyer", ("no",)])
        more = told(self, with_round, SALE, ("extra",) + loan[1:])
        self.assertEqual(rounds_of(more), ("deal", "extra", "first", "last", "loan"))
        self.assertEqual(without_round(more, "extra"), SALE)
        self.assertEqual(with_round(SALE, SALE[1][0]), SALE)

    def test_with_round_of_faults(self):
        faults = (
            (("x", [], "bank", []), ("lot", "x")),
            (("first", ["bank"], "bank", []), ("lot", "first")),
            (("x", ["bank"], "buyer", []), ("chooser", "x")),
            (("last", list(SALE[0]), "bank", [("go", [])]), ("results", "last")),
            (("loan", ["bank"], "bank", [("go", [("bank", "last")])]), ("next", "first", "ask", "buyer")),
        )
        for part, fault in faults:
            self.assertEqual(raised(self, NoDealing, with_round, SALE, part), {"fault": fault})

    def test_without_round(self):
        self.assertEqual(raised(self, NoRound, without_round, SALE, "none"), {"name": "none"})
        self.assertEqual(raised(self, NoRound, without_round, SALE, "a"), {"name": "a"})
        self.assertEqual(raised(self, NoDealing, without_round, SALE, "first"), {"fault": ("no", "first")})
        self.assertEqual(raised(self, NoDealing, without_round, SALE, "last"), {"fault": ("no", "last")})
        self.assertEqual(raised(self, NoDealing, without_round, SALE, "loan"), {"fault": ("next", "first", "ask", "bank")})
        extra = with_round(BOTH, ("spare", ["a"], "a", [("on", [("a", "last")])]))
        self.assertEqual(told(self, without_round, extra, "spare"), BOTH)

    def test_with_result(self):
        ends = {"buyer": "last", "bank": "last"}
        more = told(self, with_result, SALE, "loan", "refuse", ends)
        self.assertEqual([words_of(more, "loan"), nexts_of(more, "loan", "refuse")], [("grant", "refuse"), ends])
        other = told(self, with_result, SALE, "loan", "grant", ends)
        self.assertEqual([words_of(other, "loan"), nexts_of(other, "loan", "grant")], [("grant",), ends])
        for part in SALE[1]:
            for word, nexts in part[3]:
                self.assertEqual(with_result(SALE, part[0], word, dict(nexts[::-1])), SALE)

    def test_with_result_of_faults(self):
        ends = {"buyer": "last", "bank": "last"}
        self.assertEqual(raised(self, NoRound, with_result, SALE, "none", "x", {}), {"name": "none"})
        self.assertEqual(raised(self, NoDealing, with_result, SALE, "last", "x", ends), {"fault": ("results", "last")})
        self.assertEqual(raised(self, NoDealing, with_result, SALE, "loan", "x", {}), {"fault": ("nexts", "loan", "x")})
        more = {"buyer": "last", "bank": "last", "seller": "last"}
        self.assertEqual(raised(self, NoDealing, with_result, SALE, "loan", "x", more), {"fault": ("nexts", "loan", "x")})
        wrong = {"buyer": "deal", "bank": "deal"}
        self.assertEqual(
            raised(self, NoDealing, with_result, SALE, "loan", "x", wrong), {"fault": ("next", "loan", "x", "bank")}
        )

    def test_without_result(self):
        self.assertEqual(words_of(told(self, without_result, SALE, "deal", "off"), "deal"), ("cash",))
        self.assertEqual(raised(self, NoRound, without_result, SALE, "none", "off"), {"name": "none"})
        self.assertEqual(raised(self, Nothing, without_result, SALE, "deal", "none"), {})
        self.assertEqual(raised(self, Nothing, without_result, SALE, "last", "none"), {})
        self.assertEqual(raised(self, NoDealing, without_result, SALE, "loan", "grant"), {"fault": ("results", "loan")})
        self.assertEqual(raised(self, NoDealing, without_result, ALONE, "first", "go"), {"fault": ("results", "first")})

    def test_what_was_made_can_be_made_back(self):
        for dealing in list(FIXED) + [some_dealing(seed) for seed in range(40)]:
            for name, word in all_deeds(dealing):
                if len(words_of(dealing, name)) > 1:
                    fewer = told(self, without_result, dealing, name, word)
                    self.assertNotIn(word, words_of(fewer, name))
                    self.assertEqual(with_result(fewer, name, word, nexts_of(dealing, name, word)), dealing)
        self.assertEqual(len(PLAIN[1]), 2)


if __name__ == "__main__":
    unittest.main()
