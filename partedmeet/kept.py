"""A DEALING that is kept SOUND under EDITS, which can be taken back."""

from partedmeet.certificates import certificate
from partedmeet.dealings import all_deeds, results_of, rounds_of, rounds_with, with_results
from partedmeet.errors import NoRound, NoRule, NoSound, Nothing, TooMany, Wrong
from partedmeet.forms import is_dealing, is_name
from partedmeet.grown import grow_row, grown, is_growth
from partedmeet.rulerows import MOST_RESULTS
from partedmeet.rules import applied, drops, is_rule
from partedmeet.sound import fault
from partedmeet.ways import led

MOST_PARTIES = 8
MOST_ROUNDS = 24
MOST_WORDS = 6


class Kept:
    """a SOUND DEALING all of whose rounds are LED, at all times"""

    def __init__(self, dealing):
        if not is_dealing(dealing) or not _is_in_bounds(dealing):
            raise Wrong(0)
        _check_sound(dealing)
        names = led(dealing)
        for name in rounds_of(dealing):
            if name not in names:
                raise NoRound(name)
        # Tuples (edit, dealing): what was done, and to what it led; the first one is the DEALING as it came.
        self._past = [(None, dealing)]
        self._undone = []

    def __eq__(self, other):
        if not isinstance(other, Kept):
            return False
        if self.dealing() != other.dealing() or self.edits() != other.edits():
            return False
        return [step[0] for step in self._undone] == [step[0] for step in other._undone]

    def dealing(self):
        """returns the DEALING"""
        return self._past[-1][1]

    def edit(self, thing):
        """does an EDIT"""
        behind = self.would(thing)
        self._past.append((thing, behind))
        self._undone = []

    def would(self, thing):
        """returns the DEALING that would be behind an EDIT"""
        if not _is_edit(thing):
            raise Wrong(0)
        here = self.dealing()
        if not _can_edit(here, thing):
            raise NoRule(0)
        behind = _dropped(_edited(here, thing))
        _check_sound(behind)
        if len(behind[1]) > MOST_ROUNDS:
            raise TooMany(MOST_ROUNDS)
        if len(all_deeds(behind)) > MOST_RESULTS:
            raise TooMany(MOST_RESULTS)
        return behind

    def edits(self):
        """returns the tuple of the EDITS that were done and not taken back"""
        return tuple([step[0] for step in self._past[1:]])

    def undo(self):
        """takes the last EDIT back"""
        if len(self._past) == 1:
            raise Nothing()
        self._undone.append(self._past.pop())

    def redo(self):
        """does the last EDIT again that was taken back"""
        if not self._undone:
            raise Nothing()
        self._past.append(self._undone.pop())

    def twin(self):
        """returns an independent one in the same state"""
        other = Kept(self._past[0][1])
        other._past = list(self._past)
        other._undone = list(self._undone)
        return other

    def certificate(self):
        """returns a CERTIFICATE of the DEALING"""
        return certificate(self.dealing())

    def rows(self):
        """returns a GROWN ROW of the DEALING"""
        return grow_row(self.dealing())


def _is_in_bounds(dealing):
    parties, rounds = dealing
    if len(parties) > MOST_PARTIES or len(rounds) > MOST_ROUNDS:
        return False
    return all([len(part[3]) <= MOST_WORDS for part in rounds])


def _check_sound(dealing):
    why = fault(dealing)
    if why is not None:
        raise NoSound(why)


def _is_edit(thing):
    """tells whether any value has the form of an EDIT"""
    if not isinstance(thing, tuple) or len(thing) < 2:
        return False
    if thing[0] == "rule" or thing[0] == "grow":
        return len(thing) == 2 and isinstance(thing[1], tuple)
    if not all([is_name(part) for part in thing]):
        return False
    return (thing[0], len(thing)) in (("strike", 3), ("turn", 5))


def _can_edit(dealing, edit):
    """tells whether something of the form of an EDIT is one of the DEALING"""
    if edit[0] == "rule":
        return is_rule(dealing, edit[1])
    if edit[0] == "grow":
        return is_growth(dealing, edit[1])
    results = results_of(dealing, edit[1])
    if edit[2] not in results:
        return False
    if edit[0] == "strike":
        return len(results) > 1
    places = dict(results[edit[2]])
    party, there = edit[3:]
    return party in places and there != places[party] and there in rounds_with(dealing, party)


def _edited(dealing, edit):
    """returns the DEALING to which an EDIT leads, with what is not LED then"""
    if edit[0] == "rule":
        return applied(dealing, edit[1])
    if edit[0] == "grow":
        return grown(dealing, edit[1])
    name, word = edit[1:3]
    results = results_of(dealing, name)
    staying = [(other, results[other]) for other in results if other != word]
    if edit[0] == "turn":
        turned = {**dict(results[word]), edit[3]: edit[4]}
        staying.append((word, tuple(turned.items())))
    return with_results(dealing, name, staying)


def _dropped(dealing):
    """returns the DEALING without what is not LED"""
    rules = drops(dealing)
    return applied(dealing, rules[0]) if rules else dealing
