"""[23], its last items, and what [5] says of them: TREES of KNOTS and HEADS."""

import unittest

from partedmeet.dealingtexts import read_dealing
from partedmeet.headtrees import head_tree, headless, is_head_tree, tree_of
from tests.helper import ALONE, BOTH, FIXED, LOST, OTHER_KINDS, SALE, THREE, kinds_of, many_dealings, plain_led
from tests.helper import plain_lots, plain_steps, told, variants
from tests.plain import all_lots, nested_loops, plain_heads, plain_tied, plain_tree

# The KNOT h, m, n has the HEAD h; without it m and n are one without a HEAD, and so are x and y.
TWICE = read_dealing(
    "parties a b c\nround first a a b c\nresult go a h b h c h\nresult on a x b x c last\nround h a a b c\n"
    "result go a m b m c last\nresult off a last b last c last\nround last a a b c\n"
    "round m a a b\nresult go a h b n\nround n b b c\nresult go b m c last\n"
    "round x a a b\nresult go a last b y\nround y b b c\nresult go b x c last"
)
# The same rounds, but m and n stand ahead of h in the order of their KNOT.
LATER = read_dealing(
    "parties a b\nround first a a b\nresult go a z b z\nround z a a b\nresult go a m b n\nresult off a last b last\n"
    "round m a a\nresult go a z\nresult on a m\nround n b b\nresult go b z\nround last a a b"
)


class HeadTrees(unittest.TestCase):
    def test_known_ones(self):
        self.assertEqual(told(self, head_tree, BOTH), ((("left",), "left", ()),))
        self.assertEqual(told(self, head_tree, LATER), ((("m", "n", "z"), "z", ((("m",), "m", ()),)),))
        self.assertEqual(told(self, tree_of, LATER, ("m", "n")), ((("m",), "m", ()),))
        self.assertEqual(told(self, tree_of, LATER, ("m",)), ((("m",), "m", ()),))
        self.assertEqual(told(self, tree_of, LATER, ("n", "z")), ((("n", "z"), "z", ()),))
        for dealing in (SALE, ALONE):
            self.assertEqual(told(self, head_tree, dealing), ())
            self.assertIsNone(told(self, headless, dealing))

    def test_the_lot_without_rounds(self):
        for dealing in FIXED:
            self.assertEqual(told(self, tree_of, dealing, ()), ())

    def test_only_led_rounds_count(self):
        text = "parties a b c\nround first a a b c\nresult go a last b last c last\nround last a a b c\n"
        text = text + "round x a a b\nresult go a last b y\nround y b b c\nresult go b x c last"
        dealing = read_dealing(text)
        self.assertEqual(told(self, head_tree, dealing), ())
        self.assertIsNone(told(self, headless, dealing))
        self.assertIsNone(told(self, tree_of, dealing, ("x", "y")))
        self.assertIsNone(told(self, tree_of, dealing, ("first", "last", "x", "y")))

    def test_knots_without_a_head(self):
        self.assertIsNone(told(self, head_tree, THREE))
        self.assertEqual(told(self, headless, THREE), ("x", "y", "z"))
        self.assertIsNone(told(self, tree_of, THREE, ("x", "y", "z")))
        self.assertEqual(told(self, tree_of, THREE, ("x", "z")), ())

    def test_what_is_behind_a_head_comes_ahead_of_the_next_knot(self):
        self.assertIsNone(told(self, head_tree, TWICE))
        self.assertEqual(told(self, headless, TWICE), ("m", "n"))
        self.assertIsNone(told(self, tree_of, TWICE, ("h", "m", "n")))
        self.assertEqual(told(self, tree_of, TWICE, ("h", "m")), ((("h", "m"), "h", ()),))

    def test_a_later_knot_without_a_head(self):
        # The KNOT a, b has the HEAD a, and b in it is one of its own; x and y have none.
        text = "parties p q r\nround first p p q r\nresult go p a q last r last\nresult on p x q x r last\n"
        text = text + "round a p p\nresult k p b\nresult l p last\nround b p p\nresult k p a\nresult l p b\n"
        text = text + "round x p p q\nresult k p last q y\nround y q q r\nresult k q x r last\nround last p p q r"
        dealing = read_dealing(text)
        self.assertIsNone(told(self, head_tree, dealing))
        self.assertEqual(told(self, headless, dealing), ("x", "y"))
        self.assertEqual(told(self, tree_of, dealing, ("a", "b")), ((("a", "b"), "a", ((("b",), "b", ()),)),))

    def test_loops_in_loops_to_the_bound(self):
        dealing = nested_loops(22)
        names = tuple(sorted(plain_lots(dealing)))
        self.assertEqual(len(names), 24)
        tree = told(self, head_tree, dealing)
        left = names[2:]
        while len(left) > 1:
            ((knot, head, tree),) = tree
            self.assertEqual((knot, head), (left, left[0]))
            left = left[1:]
        self.assertEqual(tree, ())
        self.assertIsNone(told(self, headless, dealing))

    def test_against_a_plain_search(self):
        counts = [0, 0, 0]
        for dealing in [TWICE, LATER] + many_dealings(150):
            names = tuple(plain_led(dealing))
            tree, knot = plain_tree(dealing, names)
            self.assertEqual(told(self, head_tree, dealing), tree)
            self.assertEqual(told(self, headless, dealing), knot)
            counts[2 if tree is None else tree != ()] += 1
            for lot in all_lots(dealing):
                self.assertEqual(tree_of(dealing, lot), plain_tree(dealing, lot)[0])
            self.assertEqual(told(self, tree_of, dealing, lot), plain_tree(dealing, lot)[0])
        self.assertGreater(min(counts), 2)

    def test_there_is_a_tree_exactly_if_each_circle_has_a_head(self):
        for dealing in [TWICE, LATER] + many_dealings(150):
            tied = plain_tied(plain_steps(dealing), plain_led(dealing))
            have_heads = all(plain_heads(dealing, names) for names in tied)
            self.assertIs(head_tree(dealing) is not None, have_heads)

    def test_is_head_tree_of_any_value(self):
        for dealing in (LATER, BOTH, SALE):
            tree = head_tree(dealing)
            self.assertIs(told(self, is_head_tree, dealing, tree), True)
            for thing in variants(tree):
                self.assertIs(told(self, is_head_tree, dealing, thing), kinds_of(thing) == kinds_of(tree), thing)
        deep = nested_loops(22)
        self.assertIs(told(self, is_head_tree, deep, head_tree(deep)), True)
        self.assertIs(told(self, is_head_tree, deep, head_tree(nested_loops(21))), False)

    def test_without_a_tree_nothing_is_it(self):
        for dealing in (THREE, TWICE):
            for thing in OTHER_KINDS + ((("x", "y", "z"), None, ()), ((("x", "y", "z"), None, ()),)):
                self.assertIs(told(self, is_head_tree, dealing, thing), False)
        self.assertIs(told(self, is_head_tree, LOST, head_tree(BOTH)), False)


if __name__ == "__main__":
    unittest.main()
