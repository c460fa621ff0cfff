"""[19]: WAYS, ROADS, LED rounds, and DISTANCES."""

import itertools
import unittest

from partedmeet.ways import (
    distance,
    distances,
    is_road,
    is_way,
    led,
    road_length,
    road_rounds,
    shortest_road,
    shortest_way,
    steps,
)
from tests.helper import (
    ALONE,
    BOTH,
    LOST,
    OTHER_KINDS,
    SALE,
    STUCK,
    many_dealings,
    plain_led,
    plain_length,
    plain_lots,
    plain_steps,
    plain_ways,
    told,
    variants,
)


def leads(table, row):
    return row != () and all(there in table[here] for here, there in zip(row, row[1:]))


class Ways(unittest.TestCase):
    def test_the_sale(self):
        self.assertEqual(told(self, steps, SALE, "first"), ("deal", "last", "loan"))
        self.assertEqual(told(self, steps, SALE, "last"), ())
        self.assertEqual(told(self, led, SALE), ("deal", "first", "last", "loan"))
        self.assertEqual(told(self, distances, SALE), {"deal": 1, "first": 1, "last": 0, "loan": 1})
        self.assertEqual(told(self, distance, SALE, "loan"), 1)
        self.assertEqual(told(self, shortest_way, SALE, "loan", "deal"), ("loan", "deal"))
        self.assertIsNone(told(self, shortest_way, SALE, "deal", "loan"))
        self.assertEqual(told(self, road_rounds, SALE, "bank", "loan"), ("last", "loan"))
        self.assertEqual(told(self, road_rounds, SALE, "buyer", "loan"), ("deal", "last", "loan"))
        self.assertEqual(told(self, shortest_road, SALE, "buyer", "loan", "last"), ("loan", "deal", "last"))
        self.assertIsNone(told(self, shortest_road, SALE, "bank", "loan", "deal"))
        self.assertIsNone(told(self, shortest_road, SALE, "bank", "loan", "first"))
        self.assertEqual(told(self, road_length, SALE, "buyer", "loan"), 2)

    def test_rounds_without_a_way_to_last_and_rounds_that_are_not_led(self):
        self.assertEqual(told(self, led, LOST), ("first", "last", "pit"))
        self.assertEqual(told(self, distances, LOST), {"first": 1, "last": 0, "pit": None})
        self.assertEqual([told(self, distance, LOST, name) for name in ("lone", "pit")], [1, None])
        self.assertIsNone(told(self, shortest_way, LOST, "pit", "last"))
        self.assertIsNone(told(self, road_length, LOST, "a", "pit"))
        self.assertIsNone(told(self, shortest_way, LOST, "first", "lone"))
        self.assertEqual(told(self, shortest_way, LOST, "lone", "lone"), ("lone",))
        self.assertEqual(told(self, led, STUCK), ("first", "last", "x"))
        self.assertEqual(told(self, distances, STUCK), {"first": 1, "last": 0, "x": None})
        self.assertIsNone(told(self, road_length, STUCK, "a", "first"))
        self.assertEqual(told(self, road_length, STUCK, "b", "first"), 1)
        self.assertIs(told(self, is_way, LOST, ("lone", "last")), True)

    def test_ends(self):
        for dealing in many_dealings(10):
            self.assertEqual(told(self, shortest_way, dealing, "last", "last"), ("last",))
            self.assertIsNone(told(self, shortest_way, dealing, "last", "first"))
            self.assertEqual(told(self, distance, dealing, "last"), 0)
            for party in dealing[0]:
                self.assertEqual(told(self, road_rounds, dealing, party, "last"), ("last",))
                self.assertEqual(told(self, road_length, dealing, party, "last"), 0)
                self.assertEqual(told(self, shortest_road, dealing, party, "first", "first"), ("first",))

    def test_ways_against_a_plain_search(self):
        for dealing in many_dealings(120):
            table = plain_steps(dealing)
            names = plain_led(dealing)
            self.assertEqual(told(self, led, dealing), tuple(names))
            found = told(self, distances, dealing)
            self.assertEqual(list(found), names)
            for one in table:
                self.assertEqual(told(self, steps, dealing, one), tuple(sorted(table[one])))
                length = plain_length(table, one, "last")
                self.assertEqual(told(self, distance, dealing, one), length)
                if one in names:
                    self.assertEqual(found[one], length)
                for other in table:
                    self.check_shortest(table, told(self, shortest_way, dealing, one, other), one, other)

    def test_roads_against_a_plain_search(self):
        for dealing in many_dealings(120):
            for party in dealing[0]:
                table = plain_steps(dealing, party)
                for one in table:
                    ends = {row[-1] for row in plain_ways(table, one)}
                    self.assertEqual(told(self, road_rounds, dealing, party, one), tuple(sorted(ends)))
                    length = plain_length(table, one, "last")
                    self.assertEqual(told(self, road_length, dealing, party, one), length)
                    for other in plain_lots(dealing):
                        self.check_shortest(table, told(self, shortest_road, dealing, party, one, other), one, other)

    def check_shortest(self, table, row, one, other):
        length = plain_length(table, one, other)
        if length is None:
            self.assertIsNone(row)
        else:
            self.assertIsInstance(row, tuple)
            self.assertEqual((row[0], row[-1], len(row) - 1), (one, other, length))
            self.assertTrue(leads(table, row))

    def test_all_short_rows(self):
        for dealing in many_dealings(25):
            names = list(plain_lots(dealing)) + ["none"]
            table = {"none": set(), **plain_steps(dealing)}
            for many in range(4):
                for row in itertools.product(names, repeat=many):
                    self.assertIs(is_way(dealing, row), "none" not in row and leads(table, row))
                    for party in dealing[0]:
                        roads = plain_steps(dealing, party)
                        wanted = all(name in roads for name in row) and leads(roads, row)
                        self.assertIs(is_road(dealing, party, row), wanted)

    def test_rows_that_come_to_a_round_several_times(self):
        self.assertIs(told(self, is_way, BOTH, ("first", "left", "left", "left", "last")), True)
        self.assertIs(told(self, is_road, BOTH, "a", ("first", "left", "left", "left", "last")), True)
        self.assertIs(told(self, is_road, BOTH, "c", ("first", "left", "last")), False)
        self.assertIs(told(self, is_road, BOTH, "c", ("left",)), False)
        self.assertIs(told(self, is_way, BOTH, ("left",)), True)
        self.assertIs(told(self, is_way, BOTH, ()), False)
        self.assertIs(told(self, is_road, BOTH, "c", ()), False)

    def test_values_of_other_kinds(self):
        for thing in OTHER_KINDS + (BOTH, ["first"], "first", ("first", ["left"])):
            self.assertIs(told(self, is_way, BOTH, thing), False)
            self.assertIs(told(self, is_road, BOTH, "a", thing), False)
        table, roads = plain_steps(BOTH), plain_steps(BOTH, "b")
        for thing in variants(("first", "left", "last")):
            is_row = isinstance(thing, tuple) and all(isinstance(part, str) and part in table for part in thing)
            self.assertIs(told(self, is_way, BOTH, thing), is_row and leads(table, thing))
            is_row = is_row and all(part in roads for part in thing)
            self.assertIs(told(self, is_road, BOTH, "b", thing), is_row and leads(roads, thing))

    def test_alone(self):
        self.assertEqual(told(self, distances, ALONE), {"first": 1, "last": 0})
        self.assertEqual(told(self, shortest_road, ALONE, "p", "first", "last"), ("first", "last"))


if __name__ == "__main__":
    unittest.main()
