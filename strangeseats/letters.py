"""Letters and histories: what can be read, what was read, and how it goes on plainly."""

from strangeseats.kinds import is_count, is_row
from strangeseats.worlds import World


def is_join_in(house, other, world):
    """Whether both numbers are called so in this World, the lesser first."""
    return house < other and world.called(house) == house and world.called(other) == other


def is_letter_in(words, thing, world):
    """Whether anything is a letter of these words in this World."""
    if not is_row(thing, 3):
        return False
    word, house, other = thing
    if not isinstance(word, str) or not is_count(house) or not is_count(other):
        return False
    if word == "join":
        return is_join_in(house, other, world)
    return word in words


def is_letter(words, thing, *, joins=()):
    """Whether anything is a letter of these words in the World of these joins."""
    return is_letter_in(words, thing, World(joins))


def is_history(words, thing):
    """Whether anything is a tuple of letters, each one in the World by then."""
    if not isinstance(thing, tuple):
        return False
    world = World()
    for letter in thing:
        if not is_letter_in(words, letter, world):
            return False
        word, house, other = letter
        if word == "join":
            world.join(house, other)
    return True


def names_in(history):
    """The names read, as they first come."""
    names = {}
    for word, house, seat in history:
        if word != "join":
            names[(house, seat)] = True
    return tuple(names)


def houses_in(history):
    """The numbers read, of names and in joins, as they first come."""
    numbers = {}
    for word, house, other in history:
        numbers[house] = True
        if word == "join":
            numbers[other] = True
    return tuple(numbers)


def joins_in(history):
    """The joins read, as pairs."""
    return tuple((house, other) for word, house, other in history if word == "join")


class Renamer:
    """Gives all that a history reads its numbers in the plain history."""

    def __init__(self):
        self.ground = World()
        self.new_numbers = {}
        self.new_names = {}
        self.seats_taken = {}

    def house_for(self, house):
        """What the house that has this number is called in the plain history."""
        # Joins read what houses are called, so each number of a house that has
        # grown was read by itself: a number not read yet is of a house not read yet.
        if house not in self.new_numbers:
            self.new_numbers[house] = len(self.new_numbers)
        return self.ground.called(self.new_numbers[house])

    def name_for(self, name):
        """What this name is in the plain history."""
        if name not in self.new_names:
            house = self.house_for(name[0])
            seat = self.seats_taken.get(house, 0)
            self.seats_taken[house] = seat + 1
            self.new_names[name] = (house, seat)
        return self.new_names[name]

    def join_for(self, house, other):
        """What the join of these two is in the plain history, where it is done."""
        # The lesser is asked for first: of two new houses it gets the lesser number.
        first = self.house_for(house)
        second = self.house_for(other)
        self.ground.join(first, second)
        return ("join", min(first, second), max(first, second))

    def letter_for(self, letter):
        """What the next letter is in the plain history."""
        word, house, other = letter
        if word == "join":
            return self.join_for(house, other)
        new_house, new_seat = self.name_for((house, other))
        return (word, new_house, new_seat)


def plain(history):
    """The history with, for each thing that comes for the first time, the next number."""
    renamer = Renamer()
    letters = []
    for letter in history:
        letters.append(renamer.letter_for(letter))
    return tuple(letters)


def next_names(names, called, fresh):
    """The names with which it goes on plainly behind these: they themselves, and of each house the next."""
    next_seats = {}
    for house, seat in names:
        next_seats[house] = max(next_seats.get(house, 0), seat + 1)
    return names + [(house, next_seats.get(house, 0)) for house in called + [fresh]]


def next_joins(called, fresh):
    """The joins with which it goes on plainly: of houses read, of one, and of none."""
    houses = called + [fresh]
    pairs = [(house, other) for house in houses for other in houses if house < other]
    return pairs + [(fresh, fresh + 1)]


def letters_on(words, names, called, fresh):
    """The rising list of the letters that go on plainly where these names were read, and houses called so.

    fresh is the next number of a house.
    """
    letters = [("join", house, other) for house, other in next_joins(called, fresh)]
    for house, seat in next_names(names, called, fresh):
        letters.extend([(word, house, seat) for word in words])
    return sorted(letters)


def nexts(words, history):
    """The rising tuple of the letters with which a plain history goes on to a plain one."""
    world = World(joins_in(history))
    numbers = houses_in(history)
    called = [number for number in numbers if world.called(number) == number]
    return tuple(letters_on(words, list(names_in(history)), called, len(numbers)))
