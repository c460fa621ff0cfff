"""RUNS, MET STANDINGS, and ROPES."""

from partedmeet.dealings import lot_of, wants
from partedmeet.errors import NoDeed, TooMany
from partedmeet.forms import are_deeds
from partedmeet.standings import can_be_done, done, first_standing, steps_on

MOST_MET = 2000


def run(dealing, standing, deeds):
    """returns the STANDING to which DEEDS lead from a STANDING"""
    return traced(dealing, standing, deeds)[-1]


def traced(dealing, standing, deeds):
    """returns the list of all STANDINGS on the way, the first and the last one too"""
    found = _as_far_as_done(dealing, standing, deeds)
    if len(found) <= len(deeds):
        raise NoDeed(len(found) - 1)
    return found


def is_run(dealing, standing, thing):
    """tells whether any value is a RUN from a STANDING"""
    return are_deeds(thing) and len(_as_far_as_done(dealing, standing, thing)) == len(thing) + 1


def met(dealing):
    """returns the ascending tuple of all MET STANDINGS"""
    return tuple(sorted([standing for standing, _ in runs_to_met(dealing)]))


def met_runs(dealing):
    """returns the dict from each MET STANDING to the least of the shortest RUNS to it"""
    runs = dict(runs_to_met(dealing))
    return {standing: runs[standing] for standing in sorted(runs)}


def are_apart(dealing, one, other):
    """tells whether the rounds of two DEEDS want no common party"""
    lot = lot_of(dealing, other[0])
    return not any([party in lot for party in lot_of(dealing, one[0])])


def part_of(dealing, deeds, party):
    """returns the tuple of those DEEDS whose rounds want the party, in their order"""
    return tuple([deed for deed in deeds if wants(dealing, deed[0], party)])


def same_rope(dealing, one, other):
    """tells whether two tuples of DEEDS are one ROPE"""
    return all([part_of(dealing, one, party) == part_of(dealing, other, party) for party in dealing[0]])


def least_rope(dealing, deeds):
    """returns the least tuple of DEEDS that is one ROPE with this one"""
    left = {party: list(part_of(dealing, deeds, party))[::-1] for party in dealing[0]}
    found = []
    while len(found) < len(deeds):
        # The first DEED left of each party is the only one of its that can come next.
        heads = [row[-1] for row in left.values() if row]
        deed = min([head for head in heads if _is_head_of_all(dealing, left, head)])
        found.append(deed)
        for party in lot_of(dealing, deed[0]):
            left[party].pop()
    return tuple(found)


def depth_of(dealing, deeds):
    """returns in how many steps DEEDS can be done, if those that are apart may be one step"""
    depths = {party: 0 for party in dealing[0]}
    for deed in deeds:
        lot = lot_of(dealing, deed[0])
        depth = 1 + max([depths[party] for party in lot])
        for party in lot:
            depths[party] = depth
    return max(depths.values())


def runs_to_met(dealing):
    """tells the (standing, run) of all MET STANDINGS, of the shortest RUNS the least, those with fewer DEEDS first"""
    start = first_standing(dealing)
    runs = {start: ()}
    yield (start, ())
    edge = [start]
    while edge:
        later = []
        for standing in edge:
            # Each row of RUNS is gone on with in ascending order: so the first RUN to a STANDING is the least one.
            for deed, behind in steps_on(dealing, standing).items():
                if behind not in runs:
                    if len(runs) == MOST_MET:
                        raise TooMany(MOST_MET)
                    runs[behind] = runs[standing] + (deed,)
                    later.append(behind)
                    yield (behind, runs[behind])
        edge = later


def met_steps(dealing):
    """returns the dict from all MET STANDINGS, those met by fewer DEEDS first, to what steps_on returns"""
    return {standing: steps_on(dealing, standing) for standing, _ in runs_to_met(dealing)}


def _as_far_as_done(dealing, standing, deeds):
    """returns the list of the STANDINGS on the way, up to where the first DEED can't be done"""
    found = [standing]
    for deed in deeds:
        if not can_be_done(dealing, found[-1], deed):
            return found
        found.append(done(dealing, found[-1], deed))
    return found


def _is_head_of_all(dealing, left, deed):
    """tells whether a DEED is the first one left of each party that its round wants"""
    return all([left[party][-1] == deed for party in lot_of(dealing, deed[0])])
