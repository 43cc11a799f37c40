"""Alike or parted: whether two machines answer every talk alike, with a paper, or the least talk that parts them."""

from strangeseats.errors import Unlike
from strangeseats.kinds import is_below, is_row
from strangeseats.letters import letters_on
from strangeseats.machines import frame_of
from strangeseats.matches import fillings, is_match
from strangeseats.meetings import Walk
from strangeseats.talkers import Talker, case_met, filled_by, parts_at_last, there_at
from strangeseats.worlds import World


def refuse_unlike_words(one, other):
    """Refuses machines of unlike words."""
    if one[0] != other[0]:
        raise Unlike("these machines have unlike words")


def levels_from(walk, by):
    """What comes behind a by, step by step, up to the first step at which one letter parts; else a last, empty one."""
    seen = {by: True}
    levels = [[by]]
    while levels[-1] and not any(walk.parts(at) for at in levels[-1]):
        behind = []
        for at in levels[-1]:
            for word, meeting, same, onward in walk.outcomes(at):
                if onward not in seen:
                    seen[onward] = True
                    behind.append(onward)
        levels.append(behind)
    return levels


def leads_into(walk, by, goals):
    """Whether some letter leads from there to one of these."""
    return any(row[3] in goals for row in walk.outcomes(by))


def shortest_ways(walk, levels):
    """For each step a dict of the bys from which the last step's parting letter is as near as can be."""
    ways = [{at: True for at in levels[-1] if walk.parts(at)}]
    for level in reversed(levels[:-1]):
        goals = ways[-1]
        ways.append({at: True for at in level if leads_into(walk, at, goals)})
    return ways[::-1]


class Scene:
    """Two fillings in one World, and what was read so far."""

    def __init__(self, pair, ground, fresh):
        self.pair = pair
        self.ground = ground
        self.fresh = fresh
        self.seen_houses = {house: True for filling in pair for house, names in filling}
        self.seen_names = {name: True for filling in pair for house, names in filling for name in names}

    def letters_due(self, words):
        """The rising list of the letters that go on plainly."""
        called = [house for house in self.seen_houses if self.ground.called(house) == house]
        return letters_on(words, list(self.seen_names), called, self.fresh)

    def meeting_of(self, letter):
        """The cases that this letter meets."""
        return tuple(case_met(filling, letter, self.ground) for filling in self.pair)

    def go_on(self, letter, meeting, fills):
        """Reads a letter that meets this meeting, the two filled then by these fills."""
        there = [there_at(filling, case, letter, self.ground) for filling, case in zip(self.pair, meeting)]
        self.pair = tuple(filled_by(fill, found) for fill, found in zip(fills, there))
        word, house, other = letter
        self.seen_houses[house] = True
        if word == "join":
            self.ground.join(house, other)
            self.seen_houses[other] = True
        else:
            self.seen_names[(house, other)] = True
        self.fresh = max(self.fresh, 1 + max(self.seen_houses))


def first_letter(walk, scene, wanted):
    """The least letter that goes on plainly and meets what is wanted, a dict by (word, meeting)."""
    for letter in scene.letters_due(walk.one[0]):
        if (letter[0], scene.meeting_of(letter)) in wanted:
            return letter
    return None


def talk_along(walk, by, ways, scene):
    """The least talk that goes these shortest ways."""
    talk = []
    for step in range(len(ways)):
        last = step == len(ways) - 1
        wanted = {}
        for word, meeting, same, onward in walk.outcomes(by):
            if (last and not same) or (not last and onward in ways[step + 1]):
                wanted[(word, meeting)] = onward
        letter = first_letter(walk, scene, wanted)
        meeting = scene.meeting_of(letter)
        talk.append(letter)
        scene.go_on(letter, meeting, walk.fills_at(by, letter[0], meeting))
        by = wanted[(letter[0], meeting)]
    return tuple(talk)


def parting_talk(walk, by, scene):
    """The shortest talk that parts the two, of these the least in this scene; they must not be alike."""
    levels = levels_from(walk, by)
    return talk_along(walk, by, shortest_ways(walk, levels), scene)


def plain_scene(walk, by):
    """The scene in which a talk begins that goes on plainly behind both fillings."""
    stand, goal, match = by
    pair = fillings(frame_of(walk.one, stand), frame_of(walk.other, goal), match)
    houses = [house for filling in pair for house, names in filling]
    return Scene(pair, World(), 1 + max(houses, default=-1))


def verdict_of(walk, by):
    """("alike", paper) or ("parted", talk) of two machines that read together from there."""
    levels = levels_from(walk, by)
    if levels[-1]:
        return ("parted", talk_along(walk, by, shortest_ways(walk, levels), plain_scene(walk, by)))
    return ("alike", tuple(sorted([at for level in levels for at in level])))


def alike_from(one, other, by):
    """("alike", the least paper), or ("parted", the shortest and least talk)."""
    refuse_unlike_words(one, other)
    return verdict_of(Walk(one, other), by)


def alike(one, other):
    """alike_from of both machines' first stands."""
    return alike_from(one, other, (0, 0, ()))


def is_by(one, other, thing):
    """Whether anything is (stand of the one, stand of the other, match of their frames)."""
    if not is_row(thing, 3) or not is_below(thing[0], len(one[1])) or not is_below(thing[1], len(other[1])):
        return False
    stand, goal, match = thing
    return is_match(frame_of(one, stand), frame_of(other, goal), match)


def shows_alike(one, other, by, thing):
    """Whether anything is a paper for this by: rising, by in it, and all that comes behind what is in it."""
    refuse_unlike_words(one, other)
    if not isinstance(thing, tuple) or not all(is_by(one, other, row) for row in thing):
        return False
    found = {row: True for row in thing}
    if by not in found or list(thing) != sorted(found):
        return False
    walk = Walk(one, other)
    for at in thing:
        for word, meeting, same, onward in walk.outcomes(at):
            if not same or onward not in found:
                return False
    return True


def shows_parted(one, other, by, thing):
    """Whether anything is a talk, plain or not, that parts the two from there."""
    refuse_unlike_words(one, other)
    stand, goal, match = by
    filling, other_filling = fillings(frame_of(one, stand), frame_of(other, goal), match)
    talker = Talker(one, stand=stand, filling=filling)
    return parts_at_last(talker, Talker(other, stand=goal, filling=other_filling), thing)
