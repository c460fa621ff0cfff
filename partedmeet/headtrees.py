"""TREES of KNOTS and their HEADS."""

from partedmeet.knots import head_of, knots
from partedmeet.ways import led


def tree_of(dealing, lot):
    """returns the TREE of a lot of rounds, None if it has none"""
    found = []
    for knot in knots(dealing, lot):
        head = head_of(dealing, knot)
        inner = None if head is None else tree_of(dealing, _without(knot, head))
        if inner is None:
            return None
        found.append((knot, head, inner))
    return tuple(found)


def head_tree(dealing):
    """returns the TREE of the DEALING, None if it has none"""
    return tree_of(dealing, led(dealing))


def headless(dealing):
    """returns the first KNOT without a HEAD, None if the DEALING has a TREE"""
    return _headless_in(dealing, led(dealing))


def is_head_tree(dealing, thing):
    """tells whether any value is the TREE of the DEALING"""
    tree = head_tree(dealing)
    return tree is not None and thing == tree


def _headless_in(dealing, lot):
    for knot in knots(dealing, lot):
        head = head_of(dealing, knot)
        found = knot if head is None else _headless_in(dealing, _without(knot, head))
        if found is not None:
            return found
    return None


def _without(knot, head):
    return tuple([name for name in knot if name != head])
