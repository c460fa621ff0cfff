"""The FAULTS of a DEALING, and whether it is SOUND."""

from partedmeet.dates import date_fault
from partedmeet.headtrees import headless
from partedmeet.runs import met_steps
from partedmeet.standings import end_standing
from partedmeet.ways import distances, reached


def fault(dealing):
    """returns the FAULT of a DEALING, None if it is SOUND"""
    lengths = distances(dealing)
    lost = [name for name in lengths if lengths[name] is None]
    if lost:
        return ("lost", lost[0])
    parted = date_fault(dealing)
    if parted is not None:
        return ("date", *parted)
    knot = headless(dealing)
    return None if knot is None else ("circle", knot)


def is_sound(dealing):
    """tells whether a DEALING is SOUND"""
    return fault(dealing) is None


def is_sound_slowly(dealing):
    """tells whether a DEALING is SOUND, by going through all MET STANDINGS"""
    table = met_steps(dealing)
    end = end_standing(dealing)
    if end not in table:
        return False
    backwards = {standing: [] for standing in table}
    for standing, steps in table.items():
        for behind in steps.values():
            backwards[behind].append(standing)
    return len(reached(backwards, (end,))) == len(table)
