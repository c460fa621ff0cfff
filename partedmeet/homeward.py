"""Homeward: RUNS in which some party comes nearer to `last` each time."""

from partedmeet.standings import done, first_standing, open_rounds
from partedmeet.ways import distances


def choices(dealing):
    """returns the dict from each LED round with a DISTANCE, `last` left out, to the (word, party) that leads nearer"""
    lengths = distances(dealing)
    return {
        part[0]: _choice(lengths, part)
        for part in dealing[1]
        if part[0] != "last" and lengths.get(part[0]) is not None
    }


def home_deeds(dealing, standing):
    """returns the RUN homeward from a STANDING, until nothing OPEN leads nearer"""
    chosen = choices(dealing)
    found = []
    here = standing
    deed = home_deed(dealing, here, chosen)
    while deed is not None:
        found.append(deed)
        here = done(dealing, here, deed)
        deed = home_deed(dealing, here, chosen)
    return tuple(found)


def home_run(dealing):
    """returns the RUN homeward from the FIRST STANDING"""
    return home_deeds(dealing, first_standing(dealing))


def home_deed(dealing, standing, chosen):
    """returns the DEED homeward of the least OPEN round that has a choice, None if there is none"""
    ready = [name for name in open_rounds(dealing, standing) if name in chosen]
    return (ready[0], chosen[ready[0]][0]) if ready else None


def _choice(lengths, part):
    """returns the least (word, party) of a ROUND such that the party's next is nearer by 1"""
    nearer = lengths[part[0]] - 1
    return min([(word, party) for word, nexts in part[3] for party, there in nexts if lengths[there] == nearer])
