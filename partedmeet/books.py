"""BOOKS of parties, and MEMBERS, who know their own BOOK alone."""

from partedmeet.dealings import chooser_of, lot_of, made_dealing, next_of, rounds_with, words_of


def book_of(dealing, party):
    """returns the BOOK of a party"""
    return tuple([_page(dealing, party, name) for name in rounds_with(dealing, party)])


def books(dealing):
    """returns the dict from all parties to their BOOKS"""
    return {party: book_of(dealing, party) for party in dealing[0]}


def joined(books):
    """returns the DEALING whose BOOKS these are"""
    parts = {}
    for party, book in books.items():
        for name, chooser, lot, lines in book:
            results = parts.setdefault(name, (name, lot, chooser, {}))[3]
            for word, there in lines:
                results.setdefault(word, []).append((party, there))
    rounds = [(name, lot, chooser, list(results.items())) for name, lot, chooser, results in parts.values()]
    return made_dealing(list(books), rounds)


def member_at_first(dealing, party):
    """returns the MEMBER of a party that has done nothing yet"""
    return (party, book_of(dealing, party), ())


def place(member):
    """returns the round at which a MEMBER waits"""
    _, _, row = member
    if not row:
        return "first"
    name, word = row[-1]
    return dict(_page_of(member, name)[3])[word]


def words_at(member):
    """returns the ascending tuple of the words from which a MEMBER has to choose, () if it is not the chooser"""
    _, chooser, _, lines = _page_of(member, place(member))
    return tuple([line[0] for line in lines]) if chooser == member[0] else ()


def letter(member, word):
    """returns the letter by which a MEMBER asks, with a word that it chooses, or with None"""
    return (member[0], len(member[2]), word)


def heard(member, answer):
    """returns the MEMBER behind an answer"""
    party, book, row = member
    if answer[0] == "done" and answer[1] == len(row):
        return (party, book, row + (answer[2:],))
    return member


def _page(dealing, party, name):
    """returns what the BOOK of a party has of a round that wants it"""
    lines = [(word, next_of(dealing, name, word, party)) for word in words_of(dealing, name)]
    return (name, chooser_of(dealing, name), lot_of(dealing, name), tuple(lines))


def _page_of(member, name):
    """returns what a MEMBER's BOOK has of a round"""
    return [page for page in member[1] if page[0] == name][0]
