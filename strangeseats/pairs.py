"""Two as one: machines that read beside one another, or one behind the other."""

from strangeseats.alike import refuse_unlike_words
from strangeseats.talkers import Talker


class Beside:
    """Two machines of the same words that both read each letter."""

    def __init__(self, one, other):
        refuse_unlike_words(one, other)
        self.first = Talker(one)
        self.second = Talker(other)

    def read(self, letter):
        """(what one says, what other says), refused with NoLetter as by a Talker."""
        return (self.first.read(letter), self.second.read(letter))

    def held(self):
        """The pair of fillings by now."""
        return (self.first.held(), self.second.held())

    def back(self):
        """Takes the last letter back, refused with Nothing where there is none."""
        self.first.back()
        self.second.back()

    def twin(self):
        """A Beside by itself, as this one is by now."""
        other = Beside(self.first.machine, self.second.machine)
        other.first = self.first.twin()
        other.second = self.second.twin()
        return other


def letter_passed_on(letter, saying, words):
    """The letter of these words that a saying about this letter is for the next machine; None where it is none."""
    if letter[0] == "join":
        return letter
    if len(saying) != 2 or len(saying[1]) != 2 or saying[0] not in words:
        return None
    return (saying[0],) + saying[1]


class Chain:
    """Two machines, the second of which reads what the first one says."""

    def __init__(self, one, other):
        self.first = Talker(one)
        self.second = Talker(other)
        self.passed_on = []

    def read(self, letter):
        """What other says, or None where it reads nothing; refused with NoLetter as by one's Talker."""
        saying = self.first.read(letter)
        passed = letter_passed_on(letter, saying, self.second.machine[0])
        self.passed_on.append(passed is not None)
        if passed is None:
            return None
        return self.second.read(passed)

    def held(self):
        """The pair of fillings by now."""
        return (self.first.held(), self.second.held())

    def back(self):
        """Takes the last letter back, refused with Nothing where there is none."""
        self.first.back()
        if self.passed_on.pop():
            self.second.back()

    def twin(self):
        """A Chain by itself, as this one is by now."""
        other = Chain(self.first.machine, self.second.machine)
        other.first = self.first.twin()
        other.second = self.second.twin()
        other.passed_on = list(self.passed_on)
        return other
