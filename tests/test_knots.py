"""[23], its first two items: KNOTS, CIRCLES and HEADS."""

import itertools
import unittest

from partedmeet.dates import date_fault
from partedmeet.dealingtexts import read_dealing
from partedmeet.knots import circle_through, head_of, heads_of, is_circle, knots
from partedmeet.ways import distances, led
from tests.helper import (
    ALONE,
    BOTH,
    LOST,
    OTHER_KINDS,
    SALE,
    THREE,
    many_dealings,
    plain_is_sound,
    plain_lots,
    plain_steps,
    told,
    variants,
)
from tests.plain import all_lots, plain_heads, plain_knots

# x, y and z are one KNOT: x and y tell each other, y and z too. Without y there is none.
EIGHT = read_dealing(
    "parties a b\nround first a a b\nresult go a x b last\nround x a a\nresult on a y\nround y a a\nresult back a x\n"
    "result on a z\nresult out a last\nround z a a\nresult back a y\nround last a a b"
)


class Knots(unittest.TestCase):
    def test_known_ones(self):
        self.assertEqual(told(self, knots, EIGHT, ("first", "last", "x", "y", "z")), (("x", "y", "z"),))
        self.assertEqual(told(self, knots, EIGHT, ("x", "y")), (("x", "y"),))
        self.assertEqual(told(self, knots, EIGHT, ("x", "z")), ())
        self.assertEqual(told(self, knots, BOTH, ("left",)), (("left",),))
        self.assertEqual(told(self, knots, BOTH, ("first", "last", "right")), ())
        self.assertEqual(told(self, knots, LOST, ("pit",)), (("pit",),))
        for dealing in (SALE, ALONE):
            self.assertEqual(told(self, knots, dealing, tuple(sorted(plain_lots(dealing)))), ())

    def test_the_lot_without_rounds(self):
        for dealing in many_dealings(10):
            self.assertEqual(told(self, knots, dealing, ()), ())
            self.assertIsNone(told(self, head_of, dealing, ()))

    def test_knots_against_a_plain_search(self):
        sizes = {}
        for dealing in many_dealings(120):
            table = plain_steps(dealing)
            for lot in all_lots(dealing):
                found = knots(dealing, lot)
                self.assertEqual(found, plain_knots(table, lot))
                sizes[len(found)] = sizes.get(len(found), 0) + 1
            self.assertEqual(told(self, knots, dealing, lot), found)
        self.assertGreater(min(sizes[0], sizes[1], sizes[2]), 20)

    def test_circles_through_knots(self):
        for dealing in [EIGHT] + many_dealings(120):
            table = plain_steps(dealing)
            for lot in all_lots(dealing):
                for knot in knots(dealing, lot):
                    circle = told(self, circle_through, dealing, knot)
                    self.assertIsInstance(circle, tuple)
                    self.assertEqual([circle[0], circle[-1], tuple(sorted(set(circle)))], [knot[0], knot[0], knot])
                    self.assertGreater(len(circle), 1)
                    for here, there in zip(circle, circle[1:]):
                        self.assertIn(there, table[here])
                    self.assertIs(is_circle(dealing, circle), True)

    def test_a_circle_that_comes_to_a_round_several_times(self):
        self.assertEqual(told(self, circle_through, EIGHT, ("x", "y", "z")), ("x", "y", "z", "y", "x"))
        self.assertIs(told(self, is_circle, EIGHT, ("x", "y", "z", "y", "x")), True)
        self.assertIs(told(self, is_circle, EIGHT, ("y", "x", "y", "z", "y", "x", "y")), True)
        self.assertEqual(told(self, heads_of, EIGHT, ("y", "x", "y", "z", "y", "x", "y")), ("x", "y", "z"))
        self.assertEqual(told(self, circle_through, BOTH, ("left",)), ("left", "left"))
        self.assertEqual(told(self, heads_of, BOTH, ("left", "left", "left")), ("left",))

    def test_heads_against_a_plain_search(self):
        counts = [0, 0]
        for dealing in many_dealings(120):
            for lot in all_lots(dealing):
                heads = plain_heads(dealing, lot)
                self.assertEqual(told(self, head_of, dealing, lot), heads[0] if heads else None)
                counts[heads == ()] += 1
                for knot in knots(dealing, lot):
                    circle = circle_through(dealing, knot)
                    self.assertEqual(told(self, heads_of, dealing, circle), plain_heads(dealing, circle))
        self.assertGreater(min(counts), 100)

    def test_heads_where_there_is_none(self):
        text = "parties a b c\nround first a a b c\nresult go a x b x c last\nround x a a b\nresult on a x b y\n"
        text = text + "round y b b c\nresult on b x c y\nround last a a b c"
        dealing = read_dealing(text)
        self.assertEqual(told(self, knots, dealing, ("first", "last", "x", "y")), (("x", "y"),))
        self.assertIsNone(told(self, head_of, dealing, ("x", "y")))
        self.assertEqual(told(self, heads_of, dealing, ("x", "y", "x")), ())
        self.assertEqual(told(self, heads_of, dealing, ("x", "x")), ("x",))
        self.assertEqual(told(self, head_of, dealing, ("first", "last", "x", "y")), "first")
        self.assertEqual(told(self, knots, THREE, ("x", "y", "z")), (("x", "y", "z"),))
        self.assertEqual(told(self, circle_through, THREE, ("x", "y", "z")), ("x", "z", "y", "x"))
        self.assertIsNone(told(self, head_of, THREE, ("x", "y", "z")))
        self.assertEqual(told(self, heads_of, THREE, ("x", "z", "y", "x")), ())

    def test_with_distances_and_dates_they_tell_what_is_sound(self):
        counts = [0, 0, 0, 0]
        for dealing in many_dealings(300):
            is_sound = plain_is_sound(dealing)
            faults = (None in distances(dealing).values(), date_fault(dealing) is not None, not self.has_tree(dealing))
            self.assertIs(is_sound, True not in faults)
            counts[faults.index(True) if True in faults else 3] += 1
        self.assertGreater(min(counts), 0)
        self.assertGreater(counts[3], 100)

    def has_tree(self, dealing):
        left = [led(dealing)]
        for lot in left:
            for knot in knots(dealing, lot):
                head = head_of(dealing, knot)
                if head is None:
                    return False
                left.append(tuple(name for name in knot if name != head))
        return True

    def test_all_short_rows(self):
        for dealing in many_dealings(30):
            table = plain_steps(dealing)
            for many in range(5):
                for row in itertools.product(sorted(table), repeat=many):
                    is_way = all(there in table[here] for here, there in zip(row, row[1:]))
                    self.assertIs(is_circle(dealing, row), is_way and many > 1 and row[0] == row[-1])

    def test_values_of_other_kinds(self):
        for thing in OTHER_KINDS + (EIGHT, ["x", "y", "x"], "xyx", ("x", ["y"], "x"), ("none", "none"), ("x",), ("x", "x")):
            self.assertIs(told(self, is_circle, EIGHT, thing), False)
        table = plain_steps(EIGHT)
        for thing in variants(("x", "y", "z", "y", "x")):
            is_row = isinstance(thing, tuple) and all(isinstance(part, str) and part in table for part in thing)
            is_way = is_row and all(there in table[here] for here, there in zip(thing, thing[1:]))
            self.assertIs(told(self, is_circle, EIGHT, thing), is_way and len(thing) > 1 and thing[0] == thing[-1])


if __name__ == "__main__":
    unittest.main()
