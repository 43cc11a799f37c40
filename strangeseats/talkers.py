"""Talkers: machines that read letters, hold what their rules say, and answer."""

from strangeseats.errors import NoLetter, Nothing
from strangeseats.letters import is_letter_in
from strangeseats.machines import rule
from strangeseats.worlds import World


def word_case(filling, name, world):
    """The case that a word with this name meets."""
    house = world.called(name[0])
    for at, (held, names) in enumerate(filling):
        if held == house:
            return (at, names.index(name)) if name in names else (at, -1)
    return (-1, -1)


def join_case(filling, house, other):
    """The case that a join of these two, called so ahead of it, meets."""
    met = [at for at, (held, names) in enumerate(filling) if held in (house, other)]
    return tuple([-1] * (2 - len(met)) + met)


def what_is_held(filling):
    """What each thing of the frame is, by this filling."""
    there = {}
    for at, (house, names) in enumerate(filling):
        there[(at,)] = (house,)
        for seat, name in enumerate(names):
            there[(at, seat)] = name
    return there


def there_at_word(filling, case, house, name):
    """What each thing is that there is at a word with this name, of the house called so."""
    there = what_is_held(filling)
    if case[0] == -1:
        there[(-1,)] = (house,)
    if case[1] == -1:
        there[case] = name
    return there


def there_at_join(filling, case, house, other):
    """What each thing is that there is at a join of these two, the lesser first, called as behind it."""
    there = what_is_held([(house if held == other else held, names) for held, names in filling])
    if case[1] == -1:
        there[(-1,)] = (house,)
    return there


def filled_by(fill, there):
    """The filling that a fill makes of what there is."""
    return tuple((there[house][0], tuple(there[thing] for thing in seats)) for house, seats in fill)


def spoken(saying, there):
    """What is said: the mark, and of each thing what it is."""
    return (saying[0],) + tuple(there[thing] for thing in saying[1:])


def case_met(filling, letter, world):
    """The case that a letter meets, world as it is ahead of the letter."""
    word, house, other = letter
    if word == "join":
        return join_case(filling, house, other)
    return word_case(filling, (house, other), world)


def there_at(filling, case, letter, world):
    """What each thing is that there is at a letter that meets this case."""
    word, house, other = letter
    if word == "join":
        return there_at_join(filling, case, house, other)
    return there_at_word(filling, case, world.called(house), (house, other))


def step(machine, stand, filling, letter, world):
    """(the stand, the filling, what is said) behind a letter, world as it is ahead of it."""
    case = case_met(filling, letter, world)
    goal, fill, saying = rule(machine, stand, letter[0], case)
    there = there_at(filling, case, letter, world)
    return goal, filled_by(fill, there), spoken(saying, there)


class Talker:
    """A machine at a stand, filled, in a World."""

    def __init__(self, machine, *, stand=0, filling=(), joins=()):
        self.machine = machine
        self.place = stand
        self.pockets = filling
        self.ground = World(joins)
        self.steps = []

    def read(self, letter):
        """What is said of this letter, refused with NoLetter of what is none there."""
        if not is_letter_in(self.machine[0], letter, self.ground):
            raise NoLetter(letter)
        goal, filling, saying = step(self.machine, self.place, self.pockets, letter, self.ground)
        word, house, other = letter
        if word == "join":
            self.ground.join(house, other)
        self.steps.append((letter, saying, self.place, self.pockets))
        self.place = goal
        self.pockets = filling
        return saying

    def stand(self):
        """The number of the stand by now."""
        return self.place

    def held(self):
        """The filling by now."""
        return self.pockets

    def letters(self):
        """The tuple of the letters read."""
        return tuple(letter for letter, saying, place, pockets in self.steps)

    def said(self):
        """The tuple of all that was said."""
        return tuple(saying for letter, saying, place, pockets in self.steps)

    def world(self):
        """A World by itself, as it is by now."""
        return self.ground.twin()

    def back(self):
        """Takes the last letter back, refused with Nothing where there is none."""
        if not self.steps:
            raise Nothing("there is no letter to take back")
        letter, saying, place, pockets = self.steps.pop()
        if letter[0] == "join":
            self.ground.back()
        self.place = place
        self.pockets = pockets

    def twin(self):
        """A Talker by itself, as this one is by now."""
        other = Talker(self.machine, stand=self.place, filling=self.pockets)
        other.ground = self.ground.twin()
        other.steps = list(self.steps)
        return other


def answers(machine, letters, *, stand=0, filling=(), joins=()):
    """What a Talker begun so says of these letters."""
    talker = Talker(machine, stand=stand, filling=filling, joins=joins)
    for letter in letters:
        talker.read(letter)
    return talker.said()


def parts_at_last(talker, other, thing):
    """Whether anything is a talk of which two Talkers in one World answer just the last letter unlike."""
    if not isinstance(thing, tuple):
        return False
    parted = False
    for letter in thing:
        if parted or not is_letter_in(talker.machine[0], letter, talker.ground):
            return False
        parted = talker.read(letter) != other.read(letter)
    return parted
