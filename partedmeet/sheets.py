"""USES of sheets, RACES for them, and what is read of what was written."""

from partedmeet.dealings import all_deeds
from partedmeet.errors import TooMany
from partedmeet.forms import are_names
from partedmeet.runs import MOST_MET, is_run, run
from partedmeet.standings import deeds_of, first_standing, open_rounds, steps_on
from partedmeet.together import all_together, together_run


def is_use(dealing, thing):
    """tells whether any value is a USE of a DEALING"""
    if not isinstance(thing, dict):
        return False
    deeds = all_deeds(dealing)
    return all([deed in deeds and _is_reads_and_writes(used) for deed, used in thing.items()])


def races(dealing, use):
    """returns the ascending tuple of all RACES"""
    couples = {couple: True for couple in all_together(dealing)}
    found = []
    for one in use:
        for other in use:
            # Of a couple the less round comes first: so one is less than other.
            if (one[0], other[0]) in couples:
                found.extend([(sheet, one, other) for sheet in _raced_for(use, one, other)])
    return tuple(sorted(found))


def race_run(dealing, race):
    """returns the least of the shortest RUNS behind which both rounds of a RACE are OPEN, None if there is none"""
    return together_run(dealing, race[1][0], race[2][0])


def is_race_run(dealing, use, race, thing):
    """tells whether any value is a RUN behind which two DEEDS can be done in any order, and race for the sheet"""
    sheet, one, other = race
    start = first_standing(dealing)
    if one[0] == other[0] or sheet not in _raced_for(use, one, other) or not is_run(dealing, start, thing):
        return False
    names = open_rounds(dealing, run(dealing, start, thing))
    return one[0] in names and other[0] in names


def sources(dealing, use, deeds):
    """returns for each DEED of a RUN the tuple of tuples (sheet that it reads, index of the DEED that wrote it)"""
    written = {}
    found = []
    for index, deed in enumerate(deeds):
        found.append(tuple([(sheet, written.get(sheet)) for sheet in _reads(use, deed)]))
        for sheet in _writes(use, deed):
            written[sheet] = index
    return tuple(found)


def unwritten_run(dealing, use, sheet):
    """returns the least of the shortest RUNS that read a sheet last, unwritten as yet, None if there is none"""
    start = first_standing(dealing)
    known = {start: True}
    edge = [((), start)]
    while edge:
        # The RUNS of an edge ascend, and so do the DEEDS behind them: the first one that reads is the least one.
        for deeds, standing in edge:
            for deed in deeds_of(dealing, standing):
                if sheet in _reads(use, deed):
                    return deeds + (deed,)
        edge = _edge_behind(dealing, use, sheet, edge, known)
    return None


def is_unwritten_run(dealing, use, sheet, thing):
    """tells whether any value is a RUN that reads the sheet last, unwritten as yet"""
    if not is_run(dealing, first_standing(dealing), thing) or not thing:
        return False
    return sheet in _reads(use, thing[-1]) and not any([sheet in _writes(use, deed) for deed in thing[:-1]])


def _is_reads_and_writes(thing):
    if not isinstance(thing, tuple) or len(thing) != 2:
        return False
    return all([part == () or are_names(part) for part in thing])


def _reads(use, deed):
    return use[deed][0] if deed in use else ()


def _writes(use, deed):
    return use[deed][1] if deed in use else ()


def _raced_for(use, one, other):
    """returns the list of the sheets that both DEEDS use, and one of them at least writes"""
    written = _writes(use, one) + _writes(use, other)
    used = _reads(use, one) + _writes(use, one)
    others = _reads(use, other) + _writes(use, other)
    return sorted({sheet for sheet in used if sheet in others and sheet in written})


def _edge_behind(dealing, use, sheet, edge, known):
    """returns the ascending list of tuples (run, standing) of what is come to next; puts it to what is known"""
    later = []
    for deeds, standing in edge:
        for deed, behind in steps_on(dealing, standing).items():
            if behind not in known and sheet not in _writes(use, deed):
                if len(known) == MOST_MET:
                    raise TooMany(MOST_MET)
                known[behind] = True
                later.append((deeds + (deed,), behind))
    return later
