"""Worlds: which numbers are one house by now."""

from strangeseats.errors import Nothing, OneHouse


class World:
    """All houses, and the joins that made some of them one."""

    def __init__(self, joins=()):
        # Numbers never joined have no entry, for they are without end.
        self.grown = {}
        self.done = []
        for house, other in joins:
            self.join(house, other)

    def called(self, house):
        """The least number of the house that has this number."""
        return self.numbers(house)[0]

    def join(self, house, other):
        """Makes two houses one, refused with OneHouse where they are one."""
        if self.is_one(house, other):
            raise OneHouse(self.called(house))
        mine = self.numbers(house)
        others = self.numbers(other)
        # What the two were is kept, so that back need not do all joins anew.
        self.done.append(((house, other), mine, others))
        self.settle(tuple(sorted(mine + others)))

    def settle(self, numbers):
        """Makes these numbers, a rising tuple, one house by themselves."""
        for number in numbers:
            self.grown[number] = numbers

    def is_one(self, house, other):
        """Whether the two numbers are of one house."""
        return self.called(house) == self.called(other)

    def numbers(self, house):
        """The rising tuple of the numbers of the house that has this one."""
        return self.grown.get(house, (house,))

    def joins(self):
        """The joins done and not taken back, as they were handed in."""
        return tuple(pair for pair, mine, others in self.done)

    def back(self):
        """Takes the last join back, refused with Nothing where there is none."""
        if not self.done:
            raise Nothing("there is no join to take back")
        pair, mine, others = self.done.pop()
        self.settle(mine)
        self.settle(others)

    def twin(self):
        """A World by itself, as this one is by now."""
        other = World()
        other.grown = {number: self.grown[number] for number in self.grown}
        other.done = list(self.done)
        return other
