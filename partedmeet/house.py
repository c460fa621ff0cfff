"""The HOUSE, which leads a SOUND DEALING by letters that may be lost, doubled and late."""

from partedmeet.dealings import chooser_of, lot_of, words_of
from partedmeet.errors import NoParty, NoSound, Wrong
from partedmeet.forms import is_dealing, is_integer, is_name
from partedmeet.sound import fault
from partedmeet.standings import done, first_standing, place_of


class House:
    """a DEALING on its way: what is done, who is HERE, and what is chosen"""

    def __init__(self, dealing):
        if not is_dealing(dealing):
            raise Wrong(0)
        why = fault(dealing)
        if why is not None:
            raise NoSound(why)
        self._dealing = dealing
        self._standing = first_standing(dealing)
        self._done = []
        self._rows = {party: [] for party in dealing[0]}
        self._present = {party: False for party in dealing[0]}
        self._choices = {}
        self._lines = []

    def ask(self, party, number, word):
        """takes the letter of a party that has done this number of rounds, and returns the answer"""
        _check_letter(party, number, word)
        if party not in self._rows:
            raise NoParty(party)
        row = self._rows[party]
        if number < len(row):
            name, told = row[number]
            return ("done", number, name, told)
        if number > len(row):
            return ("ahead",)
        name = place_of(self._standing, party)
        if name == "last":
            return ("end",)
        for line in (("here", party), ("choose", party, word)):
            if line in self.possible_lines():
                self.write(line)
        return self._answer_at(party, name)

    def here(self):
        """returns the ascending tuple of the parties that are HERE"""
        return tuple([party for party in self._dealing[0] if self._present[party]])

    def chosen(self):
        """returns the dict from rounds to their CHOICES"""
        return {name: self._choices[name] for name in sorted(self._choices)}

    def counts(self):
        """returns the dict from all parties to how many rounds they have done"""
        return {party: len(self._rows[party]) for party in self._dealing[0]}

    def deeds(self):
        """returns the RUN of all that was done"""
        return tuple(self._done)

    def standing(self):
        """returns the STANDING"""
        return self._standing

    def log(self):
        """returns the lines of all changes, each with a line feed behind it"""
        return "".join([line + "\n" for line in self._lines])

    def twin(self):
        """returns an independent House in the same state"""
        other = House(self._dealing)
        for line in list(self._lines):
            other.write(tuple(line.split(" ")))
        return other

    def possible_lines(self):
        """returns the list of the tuples of words of all lines that could come next in the log"""
        found = []
        for party, name in self._standing:
            if name != "last" and not self._present[party]:
                found.append(("here", party))
            elif self._is_choosing(party, name):
                found.extend([("choose", party, word) for word in words_of(self._dealing, name)])
        return found + [("done", at) for at in self.chosen() if not self._missing_at(at)]

    def write(self, words):
        """does what one of the possible lines says, and puts it into the log"""
        if words[0] == "here":
            self._present[words[1]] = True
        elif words[0] == "choose":
            self._choices[place_of(self._standing, words[1])] = words[2]
        else:
            self._do(words[1])
        self._lines.append(" ".join(words))

    def _is_choosing(self, party, name):
        return chooser_of(self._dealing, name) == party and name not in self._choices

    def _missing_at(self, name):
        """returns the ascending tuple of those that a round wants, and that don't wait at it or are not HERE"""
        there = [party for party, at in self._standing if at == name and self._present[party]]
        return tuple([party for party in lot_of(self._dealing, name) if party not in there])

    def _answer_at(self, party, name):
        """returns the answer to a party that is HERE at a round; does the round, if all is there for it"""
        missing = self._missing_at(name)
        if missing:
            return ("wait", missing)
        chooser = chooser_of(self._dealing, name)
        if name in self._choices:
            self.write(("done", name))
            _, word = self._done[-1]
            return ("done", len(self._rows[party]) - 1, name, word)
        return ("choose", words_of(self._dealing, name)) if party == chooser else ("wait", (chooser,))

    def _do(self, name):
        deed = (name, self._choices.pop(name))
        lot = lot_of(self._dealing, name)
        self._standing = done(self._dealing, self._standing, deed)
        self._done.append(deed)
        for party in lot:
            self._rows[party].append(deed)
            self._present[party] = False


def _check_letter(party, number, word):
    if not is_name(party):
        raise Wrong(0)
    if not is_integer(number) or number < 0:
        raise Wrong(1)
    if word is not None and not is_name(word):
        raise Wrong(2)
