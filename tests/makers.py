"""What the tests have in common: machines, histories and odd things made up, all by a fixed chance."""

import itertools

from strangeseats.worlds import World

WORDS = ("a", "k", "zz")
FRAMES = tuple(
    frame for pockets in range(3) for frame in itertools.product((0, 1, 2), repeat=pockets)
)


class Odd:
    """An object that can be compared with nothing."""

    def __eq__(self, other):
        raise AssertionError("compared")


def deep(thing, levels):
    for _ in range(levels):
        thing = (thing,)
    return thing


ODD_THINGS = (
    None, True, False, 0, 1, -1, 10 ** 4000, "", "a", "join", "a 0.0", b"", b"a", [], [()], [0, 0, ()], {}, {0: 0}, set(),
    {1}, frozenset([1]), (None,), (True,), (0,), (1,), (0, 0), (0, 0, 0), ("a",), ((),), ([],), ({},), (((),),), (Odd(),),
    ((Odd(), Odd()),), Odd(), World(), range(3), len, int, object(), deep(0, 20), deep((), 19), deep([], 19),
    tuple(range(5000)), [0] * 5000, ("a",) * 5000, ((),) * 5000,
)


def spoilt(thing):
    """This thing with one of its parts at a time made another one, or of another kind."""
    if isinstance(thing, tuple):
        yield from spoilt_tuples(thing)
        for at, part in enumerate(thing):
            for other in spoilt(part):
                yield thing[:at] + (other,) + thing[at + 1:]
    elif isinstance(thing, str):
        yield from (thing + "x", thing.upper(), thing[:-1], "", "join", "x" * 9, None, thing.encode(), (thing,), 0, Odd())
    elif thing in (0, 1):
        yield from (bool(thing), thing + 1, thing - 1, 1 - thing, 7, str(thing), None, (thing,), [thing], Odd())
    else:
        yield from (thing + 1, thing - 1, 0, 1, -thing, str(thing), None, (thing,), [thing], Odd())


def spoilt_tuples(thing):
    yield from (list(thing), thing + (thing,), None, (), Odd())
    for at in range(len(thing)):
        yield thing[:at] + thing[at + 1:]
        yield thing[:at] + (thing[at],) + thing[at:]
        if at:
            yield thing[:at - 1] + (thing[at], thing[at - 1]) + thing[at + 1:]


def same(one, other):
    """Whether two things are the same in all their kinds, too: 1 and True are not."""
    return repr(one) == repr(other)


def world_behind(history, joins=()):
    return World(joins + tuple(letter[1:] for letter in history if letter[0] == "join"))


def some_letter(chance, world, words=WORDS, most=6):
    """A letter in this World, with numbers below most where joins leave enough."""
    called = [house for house in range(most) if world.called(house) == house]
    if len(called) > 1 and chance.randrange(4) == 0:
        return ("join",) + tuple(sorted(chance.sample(called, 2)))
    return (chance.choice(words), chance.randrange(most), chance.randrange(3))


def some_history(chance, many, most=6, words=WORDS):
    history = ()
    for _ in range(many):
        history += (some_letter(chance, world_behind(history), words, most),)
    return history


def renumbered(history, chance):
    """A like history: all houses have other numbers, all seats others."""
    shuffled = list(range(500))
    chance.shuffle(shuffled)
    out = ()
    for word, house, other in history:
        if word == "join":
            world = world_behind(out)
            out += (("join",) + tuple(sorted((world.called(shuffled[house]), world.called(shuffled[other])))),)
        else:
            out += ((word, shuffled[house], shuffled[other + 10 * house]),)
    return out


def slow_lines(words, frame):
    """The lines of a stand, worded as point 8 and 10 have them."""
    pockets = range(len(frame))
    seats = [(at, seat) for at in pockets for seat in range(frame[at])]
    of_word = sorted([(-1, -1)] + [(at, -1) for at in pockets] + seats)
    of_join = sorted([(-1, -1)] + [(-1, at) for at in pockets] + ([(0, 1)] if len(frame) == 2 else []))
    return [(word, case) for word in words for case in of_word] + [("join", case) for case in of_join]


def slow_houses(frame, line):
    """A dict of the house things at a line, each with the things beneath it, as point 9 has them."""
    word, case = line
    houses = {(at,): [(at, seat) for seat in range(many)] for at, many in enumerate(frame)}
    if word == "join":
        if case == (-1, -1):
            houses[(-1,)] = []
        if case == (0, 1):
            houses[(0,)] += houses.pop((1,))
    elif case == (-1, -1):
        houses[(-1,)] = [(-1, -1)]
    elif case[1] == -1:
        houses[(case[0],)].append(case)
    return houses


def slow_things(frame, line):
    houses = slow_houses(frame, line)
    return sorted(list(houses) + [thing for seats in houses.values() for thing in seats])


def all_fills(frame, line, goal_frame):
    """All fills of a goal's frame by what there is at a line."""
    houses = slow_houses(frame, line)
    rows = []
    for chosen in itertools.permutations(houses, len(goal_frame)):
        seats = [itertools.permutations(houses[house], many) for house, many in zip(chosen, goal_frame)]
        for below in itertools.product(*seats):
            rows.append(tuple(zip(chosen, below)))
    return rows


def some_rule(chance, frame, line, frames, marks, goals=None):
    choices = {}
    for goal in goals or range(len(frames)):
        fills = all_fills(frame, line, frames[goal])
        if fills:
            choices[goal] = fills
    goal = chance.choice(sorted(choices)) if choices else 0
    there = slow_things(frame, line)
    said = tuple(chance.choice(there) for _ in range(chance.choice((0, 0, 1, 1, 2)) if there else 0))
    return (goal, chance.choice(choices.get(goal, [()])), (chance.choice(marks),) + said)


def some_machine(chance, words=("a", "k"), frames=((), (1,), (1, 1)), marks=("x", "y")):
    """A machine with stands of these frames, the first of them (), and rules by chance."""
    stands = tuple(
        (frame, tuple(some_rule(chance, frame, line, frames, marks) for line in slow_lines(words, frame)))
        for frame in frames
    )
    return (words, stands)


def some_frames(chance, most=4):
    return ((),) + tuple(chance.choice(FRAMES) for _ in range(chance.randrange(most)))


class SlowTalker:
    """A Talker as points 8 to 11 word it: all is looked up anew at each letter."""

    def __init__(self, machine, stand=0, filling=(), joins=()):
        self.machine, self.stand, self.joins = machine, stand, list(joins)
        self.holds = {}
        for at, (house, names) in enumerate(filling):
            self.holds[(at,)] = (house,)
            for seat, name in enumerate(names):
                self.holds[(at, seat)] = name

    def called(self, house):
        numbers = {house}
        for _ in self.joins:
            for pair in self.joins:
                if numbers & set(pair):
                    numbers |= set(pair)
        return min(numbers)

    def pocket(self, number):
        for thing, what in self.holds.items():
            if len(thing) == 1 and self.called(what[0]) == self.called(number):
                return thing[0]
        return -1

    def meets(self, letter):
        word, house, other = letter
        if word == "join":
            return tuple(sorted((self.pocket(house), self.pocket(other))))
        for thing, what in self.holds.items():
            if len(thing) == 2 and what == (house, other):
                return thing
        return (self.pocket(house), -1)

    def read(self, letter):
        word, house, other = letter
        case = self.meets(letter)
        frame, rules = self.machine[1][self.stand]
        goal, fill, saying = rules[slow_lines(self.machine[0], frame).index((word, case))]
        there = {**self.holds, (-1,): (house,)}
        if word == "join":
            self.joins.append((house, other))
        else:
            there[case] = (house, other)
        self.stand = goal
        self.holds = {}
        for at, (thing, seats) in enumerate(fill):
            self.holds[(at,)] = there[thing]
            for seat, below in enumerate(seats):
                self.holds[(at, seat)] = there[below]
        return (saying[0],) + tuple(self.told(there[thing]) for thing in saying[1:])

    def told(self, what):
        return (self.called(what[0]),) if len(what) == 1 else what

    def held(self):
        frame = self.machine[1][self.stand][0]
        return tuple(
            (self.told(self.holds[(at,)])[0], tuple(self.holds[(at, seat)] for seat in range(many)))
            for at, many in enumerate(frame)
        )


class Copy:
    """A stand made after another: new pocket by new pocket the old one, or None for one put in for nothing.

    houses is a list of (old house pocket or None, list of old seat pockets or None).
    """

    def __init__(self, old, houses):
        self.old, self.houses = old, houses
        self.frame = tuple(len(seats) for _, seats in houses)

    def vain(self):
        rows = []
        for at, (house, seats) in enumerate(self.houses):
            rows += [(at,)] if house is None else []
            rows += [(at, seat) for seat, old in enumerate(seats) if house is None or old is None]
        return tuple(sorted(rows))

    def core_match(self):
        """The match of the new frame and the old one by how it was made."""
        rows = []
        for at, (house, seats) in enumerate(self.houses):
            if house is not None:
                pairs = [(seat, old) for seat, old in enumerate(seats) if old is not None]
                rows.append((at, house, tuple(pairs)))
        return tuple(rows)

    def old_case(self, line):
        word, (first, second) = line
        if word == "join":
            pockets = [self.houses[at][0] for at in (first, second) if at >= 0]
            held = sorted(pocket for pocket in pockets if pocket is not None)
            return tuple([-1] * (2 - len(held)) + held)
        if first == -1 or self.houses[first][0] is None:
            return (-1, -1)
        house, seats = self.houses[first]
        return (house, seats[second] if second >= 0 and seats[second] is not None else -1)

    def new_names(self, line):
        """A dict of the old things at a line, each with what it is called in the new stand."""
        word, case = line
        old = self.old_case(line)
        names = {}
        for at, house, pairs in self.core_match():
            names[(house,)] = (at,)
            names.update({(house, other): (at, seat) for seat, other in pairs})
        if word == "join":
            grown = (case[0] if case[0] >= 0 else case[1],)
            for pocket in old:
                names[(pocket,)] = grown
        else:
            names[old] = case
            names[(old[0],)] = (case[0],)
        return names


def plain_copy(machine, old):
    return Copy(old, [(at, list(range(many))) for at, many in enumerate(machine[1][old][0])])


def some_copy(chance, machine, old, vain):
    """A stand made after that old one, its pockets in some order, with others for nothing where vain."""
    houses = []
    for at, many in enumerate(machine[1][old][0]):
        seats = list(range(many))
        while vain and len(seats) < 2 and chance.randrange(2):
            seats.append(None)
        chance.shuffle(seats)
        houses.append((at, seats))
    while vain and len(houses) < 2 and chance.randrange(2):
        houses.append((None, [None] * chance.randrange(3)))
    chance.shuffle(houses)
    return Copy(old, houses)


def fill_of_copy(chance, copy, line, fill, goal):
    """The fill of a goal's copy, what was put in for nothing filled with what is left; None where nothing is."""
    names = copy.new_names(line)
    there = slow_houses(copy.frame, line)
    taken = {names[fill[house][0]] for house, _ in goal.houses if house is not None}
    rows = []
    for house, seats in goal.houses:
        if house is None:
            free = sorted(set(there) - taken)
            if not free:
                return None
            thing = chance.choice(free)
            taken.add(thing)
            below = {}
        else:
            thing = names[fill[house][0]]
            below = {seat: names[fill[house][1][old]] for seat, old in enumerate(seats) if old is not None}
        left = [other for other in there[thing] if other not in below.values()]
        chance.shuffle(left)
        if len(left) < len(seats) - len(below):
            return None
        rows.append((thing, tuple(below[seat] if seat in below else left.pop() for seat in range(len(seats)))))
    return tuple(rows)


def copied(chance, machine, copies):
    """The machine of these copies, alike with its own by its making; each stand needs a copy without vain pockets."""
    words, stands = machine
    new_stands = []
    for copy in copies:
        rules = []
        for line in slow_lines(words, copy.frame):
            old_frame, old_rules = stands[copy.old]
            goal, fill, saying = old_rules[slow_lines(words, old_frame).index((line[0], copy.old_case(line)))]
            choices = {}
            for at, other in enumerate(copies):
                made = fill_of_copy(chance, copy, line, fill, other) if other.old == goal else None
                if made is not None:
                    choices[at] = made
            at = chance.choice(sorted(choices))
            names = copy.new_names(line)
            rules.append((at, choices[at], (saying[0],) + tuple(names[thing] for thing in saying[1:])))
        new_stands.append((copy.frame, tuple(rules)))
    return (words, tuple(new_stands))


def some_copies(chance, machine, more, vain=True):
    """Copies of all stands, the first one first, and that many more."""
    many = len(machine[1])
    first = [some_copy(chance, machine, old, False) for old in range(many)]
    rest = first[1:] + [some_copy(chance, machine, chance.randrange(many), vain) for _ in range(more)]
    chance.shuffle(rest)
    return first[:1] + rest


def marked_otherwise(chance, machine, stand):
    """This machine with another mark in one rule of that stand."""
    words, stands = machine
    frame, rules = stands[stand]
    at = chance.randrange(len(rules))
    goal, fill, saying = rules[at]
    row = (goal, fill, ("otherly",) + saying[1:])
    return (words, stands[:stand] + ((frame, rules[:at] + (row,) + rules[at + 1:]),) + stands[stand + 1:])


def keeping_machine(chance, words, frames, marks=("x", "y")):
    """A machine whose rules go on to where much is held, more often than by chance alone."""
    stands = []
    for frame in frames:
        rules = []
        for line in slow_lines(words, frame):
            rows = [some_rule(chance, frame, line, frames, marks) for _ in range(4)]
            rules.append(max(rows, key=lambda row: sum(1 + len(seats) for _, seats in row[1])))
        stands.append((frame, tuple(rules)))
    return (words, tuple(stands))


def things_of(frame):
    return sorted([(at,) for at in range(len(frame))] + [(at, k) for at, many in enumerate(frame) for k in range(many)])


def holder(frame, sayings):
    """One stand that begins, and one that keeps all; sayings by line are said there, else x."""
    keep = tuple(((at,), tuple((at, k) for k in range(many))) for at, many in enumerate(frame))
    rules = []
    for line in slow_lines(("a",), frame):
        both = line == ("join", (0, 1))
        rules.append((0, (), ("y",)) if both else (1, keep, sayings.get(line, ("x",))))
    return (("a",), (((), ((0, (), ("x",)),) * 2), (frame, tuple(rules))))
