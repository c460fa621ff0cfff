"""What the tests of houses and logs share: a plain house by the words of [41], and members who lose letters."""

from partedmeet.books import heard, letter, member_at_first, place, words_at
from tests.helper import plain_lots, plain_nexts


class PlainHouse:
    """a house as the words of [41] say it, step by step"""

    def __init__(self, dealing, lines=()):
        self.dealing = dealing
        self.lots, self.nexts = plain_lots(dealing), plain_nexts(dealing)
        self.choosers = {part[0]: part[2] for part in dealing[1]}
        self.at = {party: "first" for party in dealing[0]}
        self.rows = {party: [] for party in dealing[0]}
        self.present, self.choice, self.deeds, self.lines = set(), {}, [], []
        for line in lines:
            self.read(line)

    def words(self, name):
        return tuple(sorted(word for at, word in self.nexts if at == name))

    def read(self, line):
        """does what a line of a log says"""
        head, *words = line.split(" ")
        if head == "here":
            self.present.add(words[0])
        elif head == "choose":
            self.choice[self.at[words[0]]] = words[1]
        else:
            self.finish(words[0])
            self.lines.pop()
        self.lines.append(line)

    def finish(self, name):
        word = self.choice.pop(name)
        self.deeds.append((name, word))
        for party in self.lots[name]:
            self.rows[party].append((name, word))
            self.present.discard(party)
            self.at[party] = self.nexts[(name, word)][party]
        self.lines.append("done " + name)

    def ask(self, party, number, word):
        if number < len(self.rows[party]):
            return ("done", number, *self.rows[party][number])
        if number > len(self.rows[party]):
            return ("ahead",)
        name = self.at[party]
        if name == "last":
            return ("end",)
        if party not in self.present:
            self.present.add(party)
            self.lines.append("here " + party)
        chooser = self.choosers[name]
        if party == chooser and word in self.words(name) and name not in self.choice:
            self.choice[name] = word
            self.lines.append(f"choose {party} {word}")
        missing = [other for other in self.lots[name] if self.at[other] != name or other not in self.present]
        if missing:
            return ("wait", tuple(sorted(missing)))
        if name not in self.choice:
            return ("choose", self.words(name)) if party == chooser else ("wait", (chooser,))
        word = self.choice[name]
        self.finish(name)
        return ("done", number, name, word)

    def state(self):
        """what a House tells of its state"""
        return (
            tuple(sorted(self.at.items())), tuple(self.deeds), {party: len(self.rows[party]) for party in sorted(self.rows)},
            tuple(sorted(self.present)), dict(sorted(self.choice.items())), "".join(line + "\n" for line in self.lines),
        )

    def letters(self):
        """all letters that a party could send now, with words that are none of the round among them"""
        found = []
        for party in self.at:
            for word in (None, "nonsense") + self.words(self.at[party]):
                found.append((party, len(self.rows[party]), word))
        return found

    def possible_lines(self):
        """all lines that such a house could write next: the first one that any letter brings about, to one reopened here"""
        found = set()
        for asked in self.letters():
            other = PlainHouse(self.dealing, self.lines)
            other.ask(*asked)
            if len(other.lines) > len(self.lines):
                found.add(other.lines[len(self.lines)])
        return sorted(found)


def state_of(house):
    return (house.standing(), house.deeds(), house.counts(), house.here(), house.chosen(), house.log())


class Members:
    """MEMBERS of a House whose letters and answers are lost, doubled and late"""

    def __init__(self, dealing, house):
        self.house = house
        self.members = {party: member_at_first(dealing, party) for party in dealing[0]}
        self.letters, self.answers = [], []

    def send(self, party, word):
        self.letters.append(letter(self.members[party], word))

    def write(self, dice, party):
        """a letter with a word out of those that it has to choose from, or with none"""
        words = words_at(self.members[party])
        self.send(party, dice.pick(list(words)) if words and dice.below(3) else None)

    def deliver(self, dice):
        """any letter that is under way comes to the House; it may come once more later, or be lost"""
        if self.letters:
            at = dice.below(len(self.letters))
            asked = self.letters[at] if dice.below(4) == 0 else self.letters.pop(at)
            if dice.below(5):
                self.answers.append((asked[0], self.house.ask(*asked)))

    def hear(self, dice):
        """any answer that is under way comes to its MEMBER; it may come once more later, or be lost"""
        if self.answers:
            at = dice.below(len(self.answers))
            party, answer = self.answers[at] if dice.below(4) == 0 else self.answers.pop(at)
            if dice.below(5):
                self.members[party] = heard(self.members[party], answer)

    def go_home(self, chosen, most):
        """all ask again and again, choosing homeward, and nothing is lost; returns whether all come to the end"""
        for _ in range(most):
            for party in self.members:
                word = chosen[place(self.members[party])][0] if words_at(self.members[party]) else None
                answer = self.house.ask(*letter(self.members[party], word))
                self.members[party] = heard(self.members[party], answer)
            if all(place(member) == "last" for member in self.members.values()):
                return True
        return False
