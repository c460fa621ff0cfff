"""The DESK: lines that edit a DEALING kept SOUND, go along a RUN of it, and ask about it."""

from partedmeet.counted import many_ropes
from partedmeet.dealingtexts import dealing_text
from partedmeet.errors import NoCommand, NoParty, Nothing, Wrong
from partedmeet.forms import is_name
from partedmeet.games import can_force
from partedmeet.homeward import home_deeds
from partedmeet.kept import Kept
from partedmeet.leastforms import least_form
from partedmeet.standings import deeds_of, done, first_standing
from partedmeet.together import all_together

STEPS = ("do", "back", "home")
RULES = ("merge", "iterate", "shortcut")
GROWTHS = ("split", "loop")
QUESTIONS = ("show", "least", "edits", "run", "can", "stand", "together", "ropes")
# How many NAMES stand behind the first word of a line; behind `force` there may be any number.
COMMANDS = {
    "do": 2, "back": 0, "home": 0, "merge": 3, "iterate": 2, "shortcut": 3, "split": 3, "loop": 2, "strike": 2,
    "turn": 4, "undo": 0, "redo": 0, "show": 0, "least": 0, "edits": 0, "run": 0, "can": 0, "stand": 0, "together": 0,
    "ropes": 0,
}


class Desk:
    """a DEALING kept SOUND, and a RUN of it"""

    def __init__(self, dealing):
        self._kept = Kept(dealing)
        self._start = dealing
        self._deeds = []
        self._standings = [first_standing(dealing)]

    def __eq__(self, other):
        return isinstance(other, Desk) and self._kept == other._kept and self._deeds == other._deeds

    def execute(self, line):
        """does what a line says, and returns the list of the lines of the answer"""
        if not isinstance(line, str):
            raise Wrong(0)
        head, *names = _words(line)
        if head == "force":
            return [self._told_of_force(names)]
        if head in QUESTIONS:
            return self._told(head)
        if head in STEPS:
            self._step(head, names)
        else:
            self._change(head, names)
        return ["done"]

    def kept(self):
        """returns a twin of the DEALING as it is kept"""
        return self._kept.twin()

    def deeds(self):
        """returns the RUN"""
        return tuple(self._deeds)

    def twin(self):
        """returns an independent desk in the same state"""
        other = Desk(self._start)
        other._kept = self._kept.twin()
        other._deeds = list(self._deeds)
        other._standings = list(self._standings)
        return other

    def _step(self, head, names):
        """goes along the RUN, or back"""
        if head == "do":
            self._do(tuple(names))
        elif head == "home":
            for deed in home_deeds(self._kept.dealing(), self._standings[-1]):
                self._do(deed)
        elif self._deeds:
            self._deeds.pop()
            self._standings.pop()
        else:
            raise Nothing()

    def _do(self, deed):
        self._standings.append(done(self._kept.dealing(), self._standings[-1], deed))
        self._deeds.append(deed)

    def _change(self, head, names):
        """edits the DEALING, or takes an EDIT back, or does it again"""
        if head == "undo":
            self._kept.undo()
        elif head == "redo":
            self._kept.redo()
        elif head in RULES:
            self._kept.edit(("rule", (head, *names)))
        elif head in GROWTHS:
            self._kept.edit(("grow", (head, *names)))
        else:
            self._kept.edit((head, *names))
        self._deeds = []
        self._standings = [first_standing(self._kept.dealing())]

    def _told(self, head):
        """returns the list of the lines that answer a question"""
        dealing = self._kept.dealing()
        if head == "show":
            return dealing_text(dealing).split("\n")
        if head == "least":
            return dealing_text(least_form(dealing)).split("\n")
        if head == "edits":
            return [str(len(self._kept.edits()))]
        if head == "run":
            return _lines(self._deeds)
        if head == "can":
            return _lines(deeds_of(dealing, self._standings[-1]))
        if head == "stand":
            return _lines(self._standings[-1])
        if head == "together":
            return _lines(all_together(dealing))
        many = many_ropes(dealing)
        return ["endless" if many is None else str(many)]

    def _told_of_force(self, names):
        dealing = self._kept.dealing()
        for name in names:
            if name not in dealing[0]:
                raise NoParty(name)
        return "yes" if can_force(dealing, tuple(sorted(names))) else "no"


def _words(line):
    """returns the list of the words of a line that is a command"""
    words = [word for word in line.split(" ") if word != ""]
    if not words or not all([is_name(word) for word in words]) or not _is_command(words[0], words[1:]):
        raise NoCommand(line)
    return words


def _is_command(head, names):
    if head == "force":
        return len(set(names)) == len(names)
    return COMMANDS.get(head) == len(names)


def _lines(couples):
    """returns the list of lines of two words each"""
    return [" ".join(couple) for couple in couples]
