"""[21], [22], and what [5] and [10] say of them: MEETINGS and DATES."""

import unittest

from partedmeet.dates import ahead, are_meetings, date, date_fault, dates, is_single, meetings, road_to_meeting
from partedmeet.dealings import made_dealing
from partedmeet.dealingtexts import read_dealing
from tests.helper import (
    ALONE,
    BOTH,
    CROSS,
    LOST,
    OTHER_KINDS,
    SALE,
    STUCK,
    THREE,
    Dice,
    many_dealings,
    plain_deeds,
    plain_is_sound,
    plain_led,
    plain_lots,
    plain_meetings,
    plain_met,
    plain_nexts,
    plain_steps,
    plain_ways,
    told,
    variants,
)
from tests.plain import plain_date

# Behind `go` a goes through u and v, in turn, to meet b at x or at `last`.
TURNS = read_dealing(
    "parties a b\nround first a a b\nresult go a u b x\nround u a a\nresult on a v\nresult out a last\nround v a a\n"
    "result back a u\nresult on a x\nround x b a b\nresult on a last b last\nround last a a b"
)


def all_cases(dealing):
    """all (round, word, one, other), in either order, rounds that are not LED among them"""
    for (name, word), nexts in plain_nexts(dealing).items():
        for one in nexts:
            for other in nexts:
                if one != other:
                    yield name, word, one, other


class Meetings(unittest.TestCase):
    def test_known_ones(self):
        self.assertEqual(told(self, meetings, TURNS, "first", "go", "a", "b"), ("last", "x"))
        self.assertEqual(told(self, ahead, TURNS, "first", "go", "a", "b"), ("u", "v"))
        self.assertEqual(told(self, road_to_meeting, TURNS, "first", "go", "a", "b", "x"), ("u", "v", "x"))
        self.assertEqual(told(self, road_to_meeting, TURNS, "first", "go", "a", "b", "last"), ("u", "last"))
        self.assertIs(told(self, is_single, TURNS, "first", "go", "a", "b"), False)
        self.assertEqual(told(self, date_fault, TURNS), ("first", "go", "a", "b"))
        self.assertEqual(told(self, meetings, SALE, "first", "ask", "bank", "seller"), ("last",))
        self.assertEqual(told(self, ahead, SALE, "first", "ask", "bank", "seller"), ("loan",))
        self.assertEqual(told(self, meetings, SALE, "first", "ask", "buyer", "seller"), ("deal",))
        self.assertEqual(told(self, date, SALE, "first", "ask", "seller", "buyer"), "deal")

    def test_a_next_that_wants_the_other_at_once(self):
        self.assertEqual(told(self, meetings, TURNS, "first", "go", "b", "a"), ("x",))
        self.assertEqual(told(self, ahead, TURNS, "first", "go", "b", "a"), ())
        self.assertEqual(told(self, road_to_meeting, TURNS, "first", "go", "b", "a", "x"), ("x",))
        self.assertEqual(told(self, meetings, BOTH, "left", "over", "a", "b"), ("left",))
        self.assertEqual(told(self, meetings, LOST, "lone", "go", "a", "b"), ("last",))
        self.assertEqual(told(self, date, LOST, "pit", "on", "a", "b"), "pit")

    def test_no_meetings(self):
        self.assertEqual(told(self, meetings, STUCK, "first", "go", "a", "b"), ())
        self.assertEqual(told(self, ahead, STUCK, "first", "go", "a", "b"), ("x",))
        self.assertEqual(told(self, date_fault, STUCK), ("first", "go", "a", "b"))

    def test_against_a_plain_search(self):
        for dealing in many_dealings(120):
            for name, word, one, other in all_cases(dealing):
                start = plain_nexts(dealing)[(name, word)][one]
                wanted = plain_meetings(dealing, start, one, other)
                self.assertEqual(told(self, ahead, dealing, name, word, one, other), wanted[0])
                self.assertEqual(told(self, meetings, dealing, name, word, one, other), wanted[1])
                self.assertIs(told(self, are_meetings, dealing, name, word, one, other, wanted), True)
                roads = plain_ways(plain_steps(dealing, one), start)
                for meeting in wanted[1]:
                    row = told(self, road_to_meeting, dealing, name, word, one, other, meeting)
                    shared = [at for at in row if other in plain_lots(dealing)[at]]
                    self.assertEqual([row[0], shared], [start, [meeting]])
                    self.assertIn(row, roads)
                    fits = [road for road in roads if self.ends_at(dealing, road, other, meeting)]
                    self.assertEqual(len(row), min([len(road) for road in fits]))

    def ends_at(self, dealing, road, other, meeting):
        lots = plain_lots(dealing)
        return road[-1] == meeting and not [at for at in road[:-1] if other in lots[at]]

    def test_are_meetings_of_any_value(self):
        wanted = (("u", "v"), ("last", "x"))
        self.assertIs(told(self, are_meetings, TURNS, "first", "go", "a", "b", wanted), True)
        self.assertIs(told(self, are_meetings, TURNS, "first", "go", "b", "a", ((), ("x",))), True)
        for thing in variants(wanted):
            self.assertIs(told(self, are_meetings, TURNS, "first", "go", "a", "b", thing), False, thing)
        for thing in OTHER_KINDS + ([], [(), ("x",)], ("x", ()), (("x",),), wanted):
            self.assertIs(told(self, are_meetings, TURNS, "first", "go", "b", "a", thing), False, thing)


class Dates(unittest.TestCase):
    def test_known_ones(self):
        self.assertIsNone(told(self, date_fault, SALE))
        self.assertIsNone(told(self, date_fault, BOTH))
        self.assertIsNone(told(self, date_fault, THREE))
        self.assertEqual(told(self, dates, ALONE), {})
        self.assertIsNone(told(self, date_fault, ALONE))
        self.assertEqual(
            told(self, dates, CROSS),
            {("first", "go", "a", "b"): None, ("x", "ok", "a", "b"): "last", ("y", "ok", "a", "b"): "last"},
        )
        self.assertIsNone(told(self, date, CROSS, "first", "go", "b", "a"))

    def test_single_only_if_both_sides_have_one_and_the_same(self):
        # a has two MEETINGS, b one of them; then the same with a and b exchanged.
        for one, other in (("a", "b"), ("b", "a")):
            text = f"parties a b\nround first a a b\nresult go {one} u {other} last\nround u {one} {one}\n"
            text = text + f"result on {one} last\nresult off {one} x\nround x a a b\nresult on a last b last\nround last a a b"
            dealing = read_dealing(text)
            self.assertEqual(meetings(dealing, "first", "go", one, other), ("last", "x"))
            self.assertEqual(meetings(dealing, "first", "go", other, one), ("last",))
            self.assertIs(told(self, is_single, dealing, "first", "go", "a", "b"), False)
            self.assertIsNone(told(self, date, dealing, "first", "go", "a", "b"))

    def test_not_single_if_both_have_the_same_two_or_none(self):
        text = "parties a b\nround first a a b\nresult go a u b v\nround u a a\nresult on a last\nresult off a x\n"
        text = text + "round v b b\nresult on b last\nresult off b x\nround x a a b\nresult on a last b last\n"
        dealing = read_dealing(text + "round last a a b")
        self.assertEqual(meetings(dealing, "first", "go", "a", "b"), ("last", "x"))
        self.assertEqual(meetings(dealing, "first", "go", "b", "a"), ("last", "x"))
        self.assertIs(told(self, is_single, dealing, "first", "go", "a", "b"), False)
        self.assertIsNone(told(self, dates, dealing)[("first", "go", "a", "b")])
        text = "parties a b\nround first a a b\nresult go a u b v\nround u a a\nresult on a u\n"
        dealing = read_dealing(text + "round v b b\nresult on b v\nround last a a b")
        self.assertEqual(meetings(dealing, "first", "go", "a", "b"), ())
        self.assertEqual(meetings(dealing, "first", "go", "b", "a"), ())
        self.assertIs(told(self, is_single, dealing, "first", "go", "a", "b"), False)
        self.assertEqual(told(self, dates, dealing), {("first", "go", "a", "b"): None})

    def test_against_a_plain_search(self):
        counts = [0, 0]
        for dealing in many_dealings(150):
            names = plain_led(dealing)
            wanted = {}
            for name, word, one, other in all_cases(dealing):
                there = plain_date(dealing, name, word, one, other)
                self.assertEqual(told(self, date, dealing, name, word, one, other), there)
                self.assertEqual(date(dealing, name, word, other, one), there)
                self.assertIs(told(self, is_single, dealing, name, word, one, other), there is not None)
                if name in names and one < other:
                    wanted[(name, word, one, other)] = there
            found = told(self, dates, dealing)
            self.assertEqual(found, wanted)
            self.assertEqual(list(found), sorted(found))
            faults = [key for key in wanted if wanted[key] is None]
            counts[faults == []] += 1
            self.assertEqual(told(self, date_fault, dealing), min(faults, default=None))
        self.assertGreater(min(counts), 30)

    def test_at_the_bounds(self):
        dice = Dice(22)
        parties = list("abcdefgh")
        lots = {"x" + letter: dice.some(parties) for letter in "abcdefghijklmnopqrstuv"}
        lots.update({"first": parties, "last": parties})
        rounds = [("last", parties, "a", [])]
        for name in sorted(set(lots) - {"last"}):
            results = []
            for word in "klmnop":
                places = {party: [there for there in lots if party in lots[there]] for party in lots[name]}
                results.append((word, [(party, dice.pick(places[party])) for party in lots[name]]))
            rounds.append((name, lots[name], lots[name][0], results))
        dealing = made_dealing(parties, rounds)
        self.assertEqual([len(dealing[0]), len(dealing[1])], [8, 24])
        found = dates(dealing)
        self.assertGreater(len(found), 500)
        for key in found:
            self.assertEqual(date(dealing, *key), found[key])

    def test_those_who_part_in_a_sound_dealing_meet_at_their_date(self):
        many = 0
        for dealing in many_dealings(200):
            if plain_is_sound(dealing) and len(dealing[0]) > 1:
                found = dates(dealing)
                self.assertNotIn(None, found.values())
                for (name, word, one, other), there in found.items():
                    many += 1
                    for standing in plain_met(dealing):
                        behind = dict(plain_deeds(dealing, standing)).get((name, word))
                        if behind is not None:
                            self.assertLessEqual(self.next_common(dealing, behind, one, other), {there} - {"last"})
        self.assertGreater(many, 300)

    def next_common(self, dealing, start, one, other):
        """the rounds other than `last` that both do next, whatever is chosen from a STANDING on"""
        lots = plain_lots(dealing)
        found = set()
        looked_at = [start]
        for standing in looked_at:
            for (name, _), behind in plain_deeds(dealing, standing):
                if one in lots[name] and other in lots[name]:
                    found.add(name)
                elif behind not in looked_at:
                    looked_at.append(behind)
        return found


if __name__ == "__main__":
    unittest.main()
