"""The error classes: each keeps the very objects that it was given."""


class DealError(ValueError):
    """what all errors of this package are; raised nowhere itself"""


class NoCommand(DealError):
    """a line that is no command"""

    def __init__(self, line):
        self.line = line


class NoDealing(DealError):
    """parties and rounds that are no DEALING, with the fault"""

    def __init__(self, fault):
        self.fault = fault


class NoDeed(DealError):
    """a DEED that can't be done, with its index"""

    def __init__(self, index):
        self.index = index


class NoParty(DealError):
    """a name of no party"""

    def __init__(self, name):
        self.name = name


class NoRound(DealError):
    """a name of no round that is as asked"""

    def __init__(self, name):
        self.name = name


class NoRule(DealError):
    """something that is no rule, with its index"""

    def __init__(self, index):
        self.index = index


class NoSound(DealError):
    """a DEALING that is not SOUND, with the fault"""

    def __init__(self, fault):
        self.fault = fault


class NoText(DealError):
    """a text that can't be read, with the first place where it can't"""

    def __init__(self, line, column):
        self.line = line
        self.column = column


class Nothing(DealError):
    """there is nothing of what is asked"""

    def __init__(self):
        pass


class TooMany(DealError):
    """more than there may be at most"""

    def __init__(self, most):
        self.most = most


class Used(DealError):
    """a name that is used already"""

    def __init__(self, name):
        self.name = name


class Wrong(DealError):
    """an argument that is not as described, with its place"""

    def __init__(self, place):
        self.place = place
