"""TRACES of RUNS, and what tells two DEALINGS apart by them."""

from partedmeet.dealings import chooser_of, lot_of, round_of
from partedmeet.errors import TooMany
from partedmeet.forms import are_deeds, are_names, is_integer, is_name
from partedmeet.runs import MOST_MET, is_run
from partedmeet.standings import first_standing, steps_on

STARTS = ("first", "first")


def is_likeness(one, other, thing):
    """tells whether any value is a LIKENESS of two DEALINGS"""
    if not are_deeds(thing) or list(thing) != sorted(set(thing)):
        return False
    couples = {couple: True for couple in thing}
    if STARTS not in couples:
        return False
    return all([_go_on_in(couples, _couples_behind(one, other, couple)) for couple in thing])


def is_parting(one, other, thing):
    """tells whether any value is a PARTING of two DEALINGS"""
    if not isinstance(thing, tuple) or len(thing) != 2 or not is_integer(thing[0]) or thing[0] not in (0, 1):
        return False
    dealing, facing = (one, other) if thing[0] == 0 else (other, one)
    if not is_run(dealing, first_standing(dealing), thing[1]):
        return False
    return not is_trace(facing, trace_of(dealing, thing[1]))


def is_trace(dealing, thing):
    """tells whether any value is the TRACE of a RUN of a dealing"""
    if not isinstance(thing, tuple) or not all([_has_mark_form(part) for part in thing]):
        return False
    here = first_standing(dealing)
    for mark in thing:
        steps = _marked_steps(dealing, here)
        if mark not in steps:
            return False
        here = steps[mark][1]
    return True


def trace_of(dealing, deeds):
    """returns the TRACE of a RUN"""
    return tuple([_mark(dealing, deed) for deed in deeds])


def likeness(one, other):
    """returns the LIKENESS with the fewest couples, None if there is none"""
    found = {STARTS: True}
    waiting = [STARTS]
    while waiting:
        behind = _couples_behind(one, other, waiting.pop())
        if behind is None:
            return None
        for couple in behind:
            if couple not in found:
                found[couple] = True
                waiting.append(couple)
    return tuple(sorted(found))


def parting(one, other):
    """returns a PARTING with as few DEEDS as any has, None if there is none"""
    start = (first_standing(one), first_standing(other))
    known = {start: True}
    # Each couple of STANDINGS is told with a couple of RUNS to them with the same TRACE.
    edge = [(start, ((), ()))]
    while edge:
        for couple, runs in edge:
            steps = (_marked_steps(one, couple[0]), _marked_steps(other, couple[1]))
            for index, facing in ((0, 1), (1, 0)):
                for mark, (deed, _) in steps[index].items():
                    if mark not in steps[facing]:
                        return (index, runs[index] + (deed,))
        edge = _edge_behind(one, other, edge, known)
    return None


def _edge_behind(one, other, edge, known):
    """returns the list of tuples (couple, runs) of what is come to next; puts it to what is known"""
    later = []
    for couple, runs in edge:
        facing = _marked_steps(other, couple[1])
        for mark, (deed, behind) in _marked_steps(one, couple[0]).items():
            there = (behind, facing[mark][1])
            if there not in known:
                if len(known) == MOST_MET:
                    raise TooMany(MOST_MET)
                known[there] = True
                later.append((there, (runs[0] + (deed,), runs[1] + (facing[mark][0],))))
    return later


def _mark(dealing, deed):
    """returns what a TRACE has for a DEED"""
    return (lot_of(dealing, deed[0]), chooser_of(dealing, deed[0]), deed[1])


def _has_mark_form(thing):
    if not isinstance(thing, tuple) or len(thing) != 3:
        return False
    return are_names(thing[0]) and is_name(thing[1]) and is_name(thing[2])


def _marked_steps(dealing, standing):
    """returns the dict from what a TRACE has for each DEED that can be done to the (deed, standing behind it)"""
    # Those of a lot wait at one OPEN round at most: so no two DEEDS have the same mark.
    return {_mark(dealing, deed): (deed, behind) for deed, behind in steps_on(dealing, standing).items()}


def _couples_behind(one, other, couple):
    """returns the list of the couples of the nexts of two rounds, None if these are not there or not alike"""
    part = round_of(one, couple[0])
    facing = round_of(other, couple[1])
    if part is None or facing is None or part[1:3] != facing[1:3]:
        return None
    if [result[0] for result in part[3]] != [result[0] for result in facing[3]]:
        return None
    sides = [(nexts, places) for (_, nexts), (_, places) in zip(part[3], facing[3])]
    return [(there, place) for nexts, places in sides for (_, there), (_, place) in zip(nexts, places)]


def _go_on_in(couples, behind):
    return behind is not None and all([couple in couples for couple in behind])
