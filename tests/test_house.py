"""[41]: the HOUSE, which leads a SOUND DEALING by letters."""

import unittest

from partedmeet.errors import NoParty, NoSound, NoText, Wrong
from partedmeet.forms import is_dealing
from partedmeet.homeward import choices
from partedmeet.house import House
from partedmeet.kept import Kept
from partedmeet.nested import followed
from partedmeet.runs import is_run, run
from partedmeet.sound import fault
from partedmeet.standings import end_standing, first_standing
from tests.helper import ALONE, BOTH, CROSS, LOST, PLAIN, SALE, STUCK, THREE, Dice, kinds_of, many_dealings
from tests.helper import plain_is_sound, plain_lots, raised, spoil, variants
from tests.houses import Members, PlainHouse, state_of
from tests.more import IDLE, LOOPS
from tests.plain import great_dealing
from tests.test_rulerows import wide


def sound_ones(many):
    return [LOOPS, IDLE, BOTH, SALE, PLAIN, ALONE] + [dealing for dealing in many_dealings(many) if plain_is_sound(dealing)]


class Houses(unittest.TestCase):
    def test_a_way_through(self):
        house = House(BOTH)
        self.assertEqual(state_of(house), (first_standing(BOTH), (), {"a": 0, "b": 0, "c": 0}, (), {}, ""))
        for asked, answer in (
            (("b", 0, None), ("wait", ("a", "c"))), (("b", 0, None), ("wait", ("a", "c"))), (("b", 0, "go"), ("wait", ("a", "c"))),
            (("c", 0, "go"), ("wait", ("a",))), (("b", 1, None), ("ahead",)), (("b", 10 ** 30, None), ("ahead",)),
            (("a", 0, None), ("choose", ("go",))), (("c", 0, None), ("wait", ("a",))), (("a", 0, "stop"), ("choose", ("go",))),
            (("a", 0, "go"), ("done", 0, "first", "go")), (("b", 0, None), ("done", 0, "first", "go")),
            (("c", 1, None), ("choose", ("on",))), (("b", 1, None), ("wait", ("a",))), (("c", 1, "on"), ("done", 1, "right", "on")),
            (("c", 2, "on"), ("end",)), (("c", 2, None), ("end",)), (("c", 3, None), ("ahead",)), (("c", 0, None), ("done", 0, "first", "go")),
            (("a", 1, "over"), ("done", 1, "left", "over")), (("a", 2, "on"), ("wait", ("b",))), (("a", 2, "over"), ("wait", ("b",))),
            (("b", 2, None), ("done", 2, "left", "on")), (("a", 2, "over"), ("done", 2, "left", "on")), (("a", 3, None), ("end",)),
        ):
            self.assertEqual(kinds_of(house.ask(*asked)), kinds_of(answer), asked)
        self.assertEqual(house.standing(), end_standing(BOTH))
        self.assertEqual(house.deeds(), (("first", "go"), ("right", "on"), ("left", "over"), ("left", "on")))
        self.assertEqual([house.counts(), house.here(), house.chosen()], [{"a": 3, "b": 3, "c": 2}, (), {}])
        wanted = (
            "here b\nhere c\nhere a\nchoose a go\ndone first\nhere c\nhere b\nchoose c on\ndone right\nhere a\nchoose a over\n"
            "done left\nhere a\nchoose a on\nhere b\ndone left\n"
        )
        self.assertEqual(house.log(), wanted)

    def test_the_choice_stays(self):
        house = House(SALE)
        self.assertEqual(house.ask("buyer", 0, "ask"), ("wait", ("bank", "seller")))
        self.assertEqual([house.chosen(), house.here()], [{"first": "ask"}, ("buyer",)])
        self.assertEqual(house.ask("buyer", 0, "leave"), ("wait", ("bank", "seller")))
        self.assertEqual(house.ask("seller", 0, "leave"), ("wait", ("bank",)))
        self.assertEqual(house.chosen(), {"first": "ask"})
        self.assertEqual(house.ask("bank", 0, None), ("done", 0, "first", "ask"))
        self.assertEqual([house.chosen(), house.here()], [{}, ()])
        # One who is HERE, but at another round, is waited for.
        self.assertEqual(house.ask("seller", 1, "cash"), ("wait", ("buyer",)))
        self.assertEqual(house.chosen(), {"deal": "cash"})
        self.assertEqual(house.ask("buyer", 1, None), ("wait", ("bank",)))
        self.assertEqual(house.ask("seller", 1, None), ("wait", ("buyer",)))
        self.assertEqual(house.ask("bank", 1, "grant"), ("done", 1, "loan", "grant"))
        self.assertEqual(house.ask("seller", 1, None), ("wait", ("buyer",)))
        self.assertEqual(house.ask("buyer", 2, None), ("done", 2, "deal", "cash"))
        self.assertEqual(house.ask("seller", 1, "off"), ("done", 1, "deal", "cash"))

    def test_one_party(self):
        house = House(ALONE)
        self.assertEqual(house.ask("p", 0, None), ("choose", ("go",)))
        self.assertEqual(house.ask("p", 0, "go"), ("done", 0, "first", "go"))
        self.assertEqual([house.ask("p", 1, "go"), house.log()], [("end",), "here p\nchoose p go\ndone first\n"])

    def test_a_round_that_comes_again_has_no_choice_any_more(self):
        house = House(BOTH)
        for party, word in (("c", None), ("b", None), ("a", "go")):
            house.ask(party, 0, word)
        for number in range(1, 30):
            self.assertEqual(house.ask("b", number, None), ("wait", ("a",)))
            self.assertEqual(house.ask("a", number, None), ("choose", ("on", "over")))
            self.assertEqual(house.ask("b", number, None), ("wait", ("a",)))
            self.assertEqual(house.ask("a", number, "over"), ("done", number, "left", "over"))
        self.assertEqual(len(house.log().split("\n")), 6 + 29 * 4)

    def test_dealings_that_are_not_sound(self):
        for dealing in (CROSS, STUCK, LOST, THREE):
            self.assertEqual(raised(self, NoSound, House, dealing), {"fault": fault(dealing)})

    def test_any_values_for_a_dealing(self):
        many = 0
        for thing in variants(PLAIN) + [House(PLAIN), Kept(PLAIN), NoText(1, 2)]:
            if not is_dealing(thing):
                many += 1
                with self.assertRaises(Wrong) as caught:
                    House(thing)
                self.assertEqual(caught.exception.place, 0)
        self.assertGreater(many, 100)

    def test_beyond_the_bounds(self):
        house = House(wide(401))
        self.assertEqual([house.ask("p", 1, None), len(house.ask("p", 0, None)[1])], [("ahead",), 401])
        self.assertEqual(len(House(followed(great_dealing(7), "a", "nine")).counts()), 9)

    def test_any_values_for_letters(self):
        house = House(SALE)
        house.ask("buyer", 0, "ask")
        before = state_of(house)
        others = [None, True, False, 0, 5, -1, 10 ** 39, "", "A", "a b", "x" * 13, "bank\n", (), ("bank",), [], {}, [["a"]]]
        for thing in others + [NoText(1, 2), house, Kept(SALE)]:
            for word in ("ask", 7):
                for number in (0, -1):
                    self.check_wrong(house, (thing, number, word), 0)
        for thing in [None, True, False, -1, -(10 ** 39), "0", "", (), (0,), [0], {}, NoText(1, 2), house]:
            for party in ("bank", "nobody"):
                for word in (None, "ask", 7):
                    self.check_wrong(house, (party, thing, word), 1)
        for thing in others[1:] + [NoText(1, 2), house, Kept(SALE)]:
            for party in ("bank", "nobody"):
                for number in (0, 1, 7):
                    self.check_wrong(house, (party, number, thing), 2)
        for number, word in ((0, None), (7, "ask")):
            self.assertEqual(raised(self, NoParty, house.ask, "nobody", number, word), {"name": "nobody"})
        self.assertEqual(state_of(house), before)

    def check_wrong(self, house, asked, where):
        with self.assertRaises(Wrong) as caught:
            house.ask(*asked)
        self.assertEqual(caught.exception.place, where)

    def test_against_a_plain_house(self):
        kinds = {}
        for seed, dealing in enumerate(sound_ones(120) + [great_dealing(seed) for seed in range(8)]):
            dice = Dice(seed)
            house, plain = House(dealing), PlainHouse(dealing)
            for _ in range(60):
                party = dice.pick(dealing[0])
                number = max(0, len(plain.rows[party]) + dice.pick([0, 0, 0, 0, 0, 0, -1, 1]))
                word = dice.pick([None, "nonsense"] + 3 * list(plain.words(plain.at[party])))
                answer = house.ask(party, number, word)
                self.assertEqual(kinds_of(answer), kinds_of(plain.ask(party, number, word)))
                self.assertEqual(kinds_of(state_of(house)), kinds_of(plain.state()))
                kinds[answer[0]] = kinds.get(answer[0], 0) + 1
        self.assertEqual(sorted(kinds), ["ahead", "choose", "done", "end", "wait"])
        self.assertGreater(min(kinds.values()), 20)

    def test_letters_and_answers_lost_doubled_and_late(self):
        done = 0
        for seed, dealing in enumerate(sound_ones(100) + [great_dealing(seed) for seed in range(8)]):
            dice = Dice(seed)
            house = House(dealing)
            members = Members(dealing, house)
            for step in range(100):
                if dice.below(3) == 0:
                    members.write(dice, dice.pick(dealing[0]))
                members.deliver(dice)
                members.hear(dice)
                if step % 10 == 9:
                    self.check_members(dealing, house, members)
                    self.check_home(dealing, house, members)
            done += len(house.deeds())
        self.assertGreater(done, 200)

    def check_members(self, dealing, house, members):
        lots = plain_lots(dealing)
        self.assertTrue(is_run(dealing, first_standing(dealing), house.deeds()))
        self.assertEqual(run(dealing, first_standing(dealing), house.deeds()), house.standing())
        for party, (_, _, row) in members.members.items():
            own = tuple(deed for deed in house.deeds() if party in lots[deed[0]])
            self.assertEqual(row, own[: len(row)])
            self.assertEqual(house.counts()[party], len(own))

    def check_home(self, dealing, house, members):
        """from here on all come to the END; on a twin, so that the house itself stays"""
        other = Members(dealing, house.twin())
        other.members = dict(members.members)
        self.assertTrue(other.go_home(choices(dealing), 400))
        self.assertEqual(other.house.standing(), end_standing(dealing))
        self.check_members(dealing, other.house, other)

    def test_all_states_of_small_ones(self):
        # Whatever is asked, and where all have been HERE once: from each state the END can be had.
        for dealing in (BOTH, SALE, PLAIN, ALONE):
            known, waiting = {}, [PlainHouse(dealing)]
            while waiting and len(known) < 400:
                plain = waiting.pop()
                key = str(plain.state()[0]) + str(plain.state()[3:5])
                if key not in known:
                    known[key] = True
                    house = House(dealing)
                    for line in plain.lines:
                        house.write(tuple(line.split(" ")))
                    self.assertEqual(state_of(house), plain.state())
                    self.check_each_letter(dealing, house, plain, waiting)
            self.assertLess(len(known), 400)

    def check_each_letter(self, dealing, house, plain, waiting):
        for asked in plain.letters():
            other, twin = PlainHouse(dealing, plain.lines), house.twin()
            self.assertEqual(twin.ask(*asked), other.ask(*asked))
            self.assertEqual(state_of(twin), other.state())
            waiting.append(other)
        members = Members(dealing, house.twin())
        self.assertTrue(members.go_home(choices(dealing), 50))
        self.assertEqual(members.house.standing(), end_standing(dealing))

    def test_twins_are_independent(self):
        house = House(SALE)
        house.ask("buyer", 0, "ask")
        twin = house.twin()
        self.assertIsInstance(twin, House)
        before = state_of(house)
        self.assertEqual(state_of(twin), before)
        twin.ask("bank", 0, None)
        twin.ask("seller", 0, None)
        self.assertEqual(state_of(house), before)
        self.assertEqual(twin.deeds(), (("first", "ask"),))
        kept = state_of(twin)
        house.ask("seller", 0, None)
        self.assertEqual(house.here(), ("buyer", "seller"))
        self.assertEqual(state_of(twin), kept)
        self.assertEqual(state_of(twin.twin()), kept)

    def test_what_it_tells_is_new(self):
        house = House(SALE)
        house.ask("buyer", 0, "ask")
        before = kinds_of(state_of(house))
        spoil(house.counts())
        spoil(house.chosen())
        self.assertEqual(kinds_of(state_of(house)), before)
        self.assertEqual(list(house.counts()), ["bank", "buyer", "seller"])

    def test_choices_are_told_in_order(self):
        house = House(LOOPS)
        for party, word in (("b", None), ("c", None), ("a", "go")):
            house.ask(party, 0, word)
        house.ask("c", 1, None)
        house.ask("b", 1, "in")
        self.assertEqual(house.chosen(), {"out": "in"})
        house.ask("a", 1, None)
        house.ask("b", 2, "done")
        self.assertEqual([list(house.chosen().items()), house.here()], [[("wait", "done")], ("b", "c")])
        # `ask` changes nothing in what it answers ahead of (4).
        before = state_of(house)
        for asked in (("a", 0, "more"), ("a", 9, "more"), ("b", 1, "again"), ("b", 3, "again")):
            house.ask(*asked)
        self.assertEqual(state_of(house), before)


if __name__ == "__main__":
    unittest.main()
