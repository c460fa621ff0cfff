"""DEALINGS as texts."""

from partedmeet.dealings import made_dealing
from partedmeet.errors import NoText, Wrong
from partedmeet.forms import is_name


def dealing_text(dealing):
    """returns the text of a DEALING"""
    lines = [["parties", *dealing[0]]]
    for name, lot, chooser, results in dealing[1]:
        lines.append(["round", name, chooser, *lot])
        for word, nexts in results:
            lines.append(["result", word] + [part for pair in nexts for part in pair])
    return "\n".join([" ".join(words) for words in lines])


def read_dealing(text):
    """returns the DEALING that a text tells"""
    if not isinstance(text, str):
        raise Wrong(0)
    lines = text.split("\n")
    _check_lines(lines)
    parties = []
    rounds = []
    for line in lines:
        words = [word for word in line.split(" ") if word != ""]
        if words and words[0] == "parties":
            parties = words[1:]
        elif words and words[0] == "round":
            rounds.append((words[1], words[3:], words[2], []))
        elif words:
            rounds[-1][3].append((words[1], list(zip(words[2::2], words[3::2]))))
    return made_dealing(parties, rounds)


def _check_lines(lines):
    """raises NoText for the first place that can't be read"""
    heads = ("parties",)
    for index, line in enumerate(lines):
        placed = _placed_words(line)
        if placed:
            column = _wrong_column(line, placed, heads)
            if column is not None:
                raise NoText(index, column)
            heads = ("round",) if heads == ("parties",) else ("round", "result")
    if heads == ("parties",):
        raise NoText(0, 0)


def _placed_words(line):
    """returns the list of tuples (column, word), one for each word of a line"""
    found = []
    column = 0
    for word in line.split(" "):
        if word != "":
            found.append((column, word))
        column = column + len(word) + 1
    return found


def _wrong_column(line, placed, heads):
    """returns the column at which a line with words can't be read, None if there is none"""
    head_column, head = placed[0]
    if head not in heads:
        return head_column
    for column, word in placed[1:]:
        if not is_name(word):
            return column
    return len(line) if _lacks_word(head, len(placed) - 1) else None


def _lacks_word(head, many):
    """tells whether so many words behind the head of a line are too few"""
    if head == "round":
        return many < 2
    return head == "result" and many % 2 == 0
