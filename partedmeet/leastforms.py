"""ALIKE rounds, and the LEAST FORMS of DEALINGS."""

from partedmeet.dealings import rounds_of
from partedmeet.rules import fresh_words
from partedmeet.ways import led


def alike_classes(dealing):
    """returns the ascending tuple of the classes of ALIKE rounds"""
    classes = {}
    for name, number in _class_numbers(dealing).items():
        classes.setdefault(number, []).append(name)
    return tuple(sorted([tuple(names) for names in classes.values()]))


def least_form(dealing):
    """returns the LEAST FORM of a DEALING"""
    numbers = _class_numbers(dealing)
    # Of a class any round will do, as all go on alike.
    parts = {numbers[part[0]]: part for part in dealing[1] if part[0] in numbers}
    names = _class_names(numbers, parts)
    rounds = []
    for number, (_, lot, chooser, results) in parts.items():
        told = [(word, tuple([(party, names[numbers[there]]) for party, there in nexts])) for word, nexts in results]
        rounds.append((names[number], lot, chooser, tuple(told)))
    return (dealing[0], tuple(sorted(rounds)))


def is_least(dealing):
    """tells whether all rounds are LED and none are ALIKE"""
    return len(alike_classes(dealing)) == len(rounds_of(dealing))


def are_alike(one, other):
    """tells whether the LEAST FORMS of two DEALINGS are equal"""
    return least_form(one) == least_form(other)


def _class_numbers(dealing):
    """returns the dict from all LED rounds, ascending, to numbers, the same ones for ALIKE rounds"""
    names = led(dealing)
    parts = [part for part in dealing[1] if part[0] in names]
    numbers = _numbered({part[0]: (part[1], part[2], _words(part)) for part in parts})
    many = 0
    while many < max(numbers.values()):
        many = max(numbers.values())
        numbers = _numbered({part[0]: (numbers[part[0]], _numbers_behind(numbers, part)) for part in parts})
    return numbers


def _words(part):
    return tuple([result[0] for result in part[3]])


def _numbers_behind(numbers, part):
    """returns the tuple of the numbers of the nexts of a ROUND, word by word, party by party"""
    return tuple([numbers[there] for _, nexts in part[3] for _, there in nexts])


def _numbered(signs):
    """returns a dict with the same keys, and numbers from 0 on, equal ones just where the values were equal"""
    known = {}
    found = {}
    for name in signs:
        found[name] = known.setdefault(signs[name], len(known))
    return found


def _class_names(numbers, parts):
    """returns the dict from the numbers of all classes to their names in the LEAST FORM"""
    order = [numbers["first"]]
    index = 0
    while index < len(order):
        behind = _numbers_behind(numbers, parts[order[index]])
        for number in behind:
            if number not in order:
                order.append(number)
        index = index + 1
    ends = {numbers["first"]: "first", numbers["last"]: "last"}
    others = [number for number in order if number not in ends]
    return {**ends, **dict(zip(others, fresh_words([], len(others))))}
