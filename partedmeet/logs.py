"""Logs of HOUSES, which may be cut anywhere, and HOUSES reopened by them."""

from partedmeet.errors import NoText, Wrong
from partedmeet.forms import is_dealing
from partedmeet.house import House


def reopened(dealing, text):
    """returns the House whose log is the whole lines of a text"""
    if not is_dealing(dealing):
        raise Wrong(0)
    if not isinstance(text, str):
        raise Wrong(1)
    house = House(dealing)
    for index, line in enumerate(whole_lines(text)):
        column = _wrong_column(line, house.possible_lines())
        if column is not None:
            raise NoText(index, column)
        house.write(tuple(line.split(" ")))
    return house


def whole_lines(text):
    """returns the tuple of the lines of a text that end with a line feed"""
    return tuple(text.split("\n")[:-1])


def _wrong_column(line, possible):
    """returns the column at which a line is none of the possible ones, None if it is one of them"""
    words = tuple(line.split(" "))
    column = 0
    for many, word in enumerate(words):
        if not any([other[: many + 1] == words[: many + 1] for other in possible]):
            return column
        column = column + len(word) + 1
    return None if words in possible else len(line)
