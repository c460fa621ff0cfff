"""SEATS and the TABLE: which rounds are OPEN together."""

from partedmeet.dealings import lot_of
from partedmeet.runs import met_runs
from partedmeet.standings import open_rounds
from partedmeet.ways import led


def seat_table(dealing):
    """returns the TABLE of a DEALING"""
    return tuple(sorted(_tabled(dealing)))


def open_together(dealing, one, other):
    """tells whether two LED rounds want no common party, and the TABLE has all their SEATS with each other"""
    return _are_seated(dealing, _tabled(dealing), one, other)


def all_together(dealing):
    """returns the ascending tuple of the couples (one, other) of which open_together tells so"""
    table = _tabled(dealing)
    names = led(dealing)
    couples = [(one, other) for one in names for other in names if one < other]
    return tuple([couple for couple in couples if _are_seated(dealing, table, couple[0], couple[1])])


def open_together_slowly(dealing, one, other):
    """tells whether two rounds are unlike, and both OPEN in some MET STANDING"""
    return together_run(dealing, one, other) is not None


def together_run(dealing, one, other):
    """returns the least of the shortest RUNS behind which two unlike rounds are OPEN, None if there is none"""
    found = []
    for standing, deeds in met_runs(dealing).items():
        names = open_rounds(dealing, standing)
        if one != other and one in names and other in names:
            found.append((len(deeds), deeds))
    return min(found)[1] if found else None


def _tabled(dealing):
    """returns the dict whose keys are the couples of the TABLE"""
    names = led(dealing)
    parts = {part[0]: part for part in dealing[1] if part[0] in names}
    found = {}
    waiting = [couple for part in parts.values() for couple in _couples_at_first(part)]
    # How many SEATS of a round another SEAT is with: with all of them, it is also with where they go.
    counts = {}
    while waiting:
        couple = waiting.pop()
        if couple not in found:
            found[couple] = True
            for seat, (_, name) in (couple, couple[::-1]):
                counts[(seat, name)] = counts.get((seat, name), 0) + 1
                if counts[(seat, name)] == len(parts[name][1]):
                    waiting.extend(_couples_behind(seat, parts[name]))
    return found


def _couples_at_first(part):
    """returns the list of the couples of SEATS to which two parties of a ROUND go by one RESULT"""
    return [(one, other) for _, nexts in part[3] for one in nexts for other in nexts if one < other]


def _couples_behind(seat, part):
    """returns the list of the couples of a SEAT with all to which the parties of a ROUND go"""
    return [_couple(seat, there) for _, nexts in part[3] for there in nexts]


def _couple(one, other):
    return (one, other) if one < other else (other, one)


def _are_seated(dealing, table, one, other):
    # The TABLE couples unlike parties alone: so rounds that want a common one are never told, nor is `last`.
    seats = [(party, one) for party in lot_of(dealing, one)]
    return all([_couple(seat, (party, other)) in table for seat in seats for party in lot_of(dealing, other)])
