"""A hall: many talks beside one another in one World, of which no more is kept than must be."""

from strangeseats.errors import NoLetter, NoTalk, Nothing, Taken
from strangeseats.least import least
from strangeseats.letters import is_letter_in
from strangeseats.talkers import step, what_is_held
from strangeseats.worlds import World


class Hall:
    """Many talks with one machine."""

    def __init__(self, machine):
        # The least machine answers alike, and what it holds is just what must be held.
        self.small = least(machine)
        self.ground = World()
        self.running = {}
        self.deeds = []

    def begin(self, talk):
        """Begins a talk, refused with Taken where there is one of that name."""
        if talk in self.running:
            raise Taken(talk)
        self.note_deed([talk], False)
        self.running[talk] = (0, ())

    def note_deed(self, names, joined):
        """Keeps what these talks are ahead of a deed, so that it can be taken back."""
        self.deeds.append((joined, [(talk, self.running.get(talk)) for talk in names]))

    def go_on(self, talk, letter):
        """Lets a talk read a letter: what is said."""
        stand, filling = self.running[talk]
        goal, new_filling, saying = step(self.small, stand, filling, letter, self.ground)
        self.running[talk] = (goal, new_filling)
        return saying

    def refuse_no_talk(self, talk):
        """Refuses anything that is no talk."""
        if not isinstance(talk, str) or talk not in self.running:
            raise NoTalk(talk)

    def tell(self, talk, word, house, seat):
        """What is said in a talk of this word with this name, refused with NoTalk, then with NoLetter."""
        self.refuse_no_talk(talk)
        letter = (word, house, seat)
        if not is_letter_in(self.small[0], letter, self.ground) or word == "join":
            raise NoLetter(letter)
        self.note_deed([talk], False)
        return self.go_on(talk, letter)

    def join(self, house, other):
        """Makes two houses one in all talks: the rising tuple of (talk, what is said); refused with OneHouse."""
        lesser, greater = sorted([self.ground.called(house), self.ground.called(other)])
        self.ground.join(house, other)
        names = sorted(self.running)
        self.note_deed(names, True)
        said = []
        for talk in names:
            said.append((talk, self.go_on(talk, ("join", lesser, greater))))
        return tuple(said)

    def end(self, talk):
        """Ends a talk, refused with NoTalk."""
        self.refuse_no_talk(talk)
        self.note_deed([talk], False)
        del self.running[talk]

    def talks(self):
        """The rising tuple of the talks."""
        return tuple(sorted(self.running))

    def held(self, talk):
        """The rising tuple of what must be held of a talk, refused with NoTalk."""
        self.refuse_no_talk(talk)
        stand, filling = self.running[talk]
        return tuple(sorted(what_is_held(filling).values()))

    def all_held(self):
        """The rising tuple of what must be held of all talks together."""
        return tuple(sorted({thing for talk in self.running for thing in self.held(talk)}))

    def back(self):
        """Takes the last deed back, refused with Nothing where there is none."""
        if not self.deeds:
            raise Nothing("there is no deed to take back")
        joined, states = self.deeds.pop()
        if joined:
            self.ground.back()
        for talk, state in states:
            if state is None:
                del self.running[talk]
            else:
                self.running[talk] = state

    # Without a docstring: L7 lets any and all take generator expressions only beside a bare return len(..).
    def __len__(self):
        return len(self.deeds)
