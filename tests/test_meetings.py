"""Point 13: what one letter meets in two machines, and where both go on to."""

import itertools
import random
import unittest

from makers import FRAMES, SlowTalker, keeping_machine, slow_lines, some_machine
from strangeseats.matches import fillings, is_match, matches
from strangeseats.meetings import gone_on, join_meetings, meetings

PAIRS = list(itertools.product(FRAMES, FRAMES))


def silent(frame):
    return (("a",), (((), ((0, (), ("x",)),) * 2), (frame, ((0, (), ("x",)),) * len(slow_lines(("a",), frame)))))


def letters_tried(pair, words=("a",)):
    """Letters enough to meet all: each name and house of two fillings, and strange ones."""
    houses = sorted({house for filling in pair for house, _ in filling}) + [6, 7]
    names = {name for filling in pair for _, below in filling for name in below} | {(house, 8) for house in houses}
    rows = [(word,) + name for word in words for name in sorted(names)]
    return rows + [("join",) + pair for pair in itertools.combinations(houses, 2)]


def slow_meetings(frame, other, match, join):
    pair = fillings(frame, other, match)
    one = SlowTalker(silent(frame), 1, pair[0])
    two = SlowTalker(silent(other), 1, pair[1])
    tried = [letter for letter in letters_tried(pair) if (letter[0] == "join") == join]
    return tuple(sorted({(one.meets(letter), two.meets(letter)) for letter in tried}))


def slow_match(one, two):
    """What two SlowTalkers hold both, as a match."""
    rows = []
    for i, (house, names) in enumerate(one.held()):
        for j, (held, below) in enumerate(two.held()):
            if house == held:
                pairs = [(k, l) for k, name in enumerate(names) for l, other in enumerate(below) if name == other]
                rows.append((i, j, tuple(sorted(pairs))))
    return tuple(sorted(rows))


class Meetings(unittest.TestCase):
    def test_some(self):
        self.assertEqual(meetings((), (), ()), (((-1, -1), (-1, -1)),))
        self.assertEqual(
            meetings(frame=(1,), other=(1,), match=((0, 0, ()),)),
            (((-1, -1), (-1, -1)), ((0, -1), (0, -1)), ((0, -1), (0, 0)), ((0, 0), (0, -1))),
        )
        self.assertEqual(
            meetings((1,), (0,), ()),
            (((-1, -1), (-1, -1)), ((-1, -1), (0, -1)), ((0, -1), (-1, -1)), ((0, 0), (-1, -1))),
        )

    def test_some_of_joins(self):
        self.assertEqual(join_meetings((), (), ()), (((-1, -1), (-1, -1)),))
        self.assertEqual(
            join_meetings(frame=(1,), other=(1,), match=()),
            (((-1, -1), (-1, -1)), ((-1, -1), (-1, 0)), ((-1, 0), (-1, -1)), ((-1, 0), (-1, 0))),
        )
        self.assertEqual(
            join_meetings((1,), (1,), ((0, 0, ()),)), (((-1, -1), (-1, -1)), ((-1, 0), (-1, 0))),
        )
        self.assertIn(((-1, 0), (0, 1)), join_meetings((0,), (0, 0), ((0, 1, ()),)))
        self.assertNotIn(((-1, 0), (-1, 0)), join_meetings((0,), (0, 0), ((0, 1, ()),)))

    def test_all_frames_and_matches(self):
        most = [0, 0]
        for frame, other in PAIRS:
            for match in matches(frame, other):
                told = meetings(frame, other, match), join_meetings(frame, other, match)
                self.assertEqual(told[0], slow_meetings(frame, other, match, False))
                self.assertEqual(told[1], slow_meetings(frame, other, match, True))
                most = [max(many, len(rows)) for many, rows in zip(most, told)]
        self.assertEqual(most, [13, 11])


class GoneOn(unittest.TestCase):
    def assert_as_talkers(self, one, two, by):
        stand, goal, match = by
        pair = fillings(one[1][stand][0], two[1][goal][0], match)
        seen = set()
        for letter in letters_tried(pair, one[0]):
            talkers = SlowTalker(one, stand, pair[0]), SlowTalker(two, goal, pair[1])
            meeting = tuple(talker.meets(letter) for talker in talkers)
            said = [talker.read(letter) for talker in talkers]
            due = (said[0] == said[1], (talkers[0].stand, talkers[1].stand, slow_match(*talkers)))
            told = gone_on(one, two, by, letter[0], meeting)
            self.assertEqual(told, due)
            self.assertIs(type(told[0]), bool)
            self.assertTrue(is_match(one[1][due[1][0]][0], two[1][due[1][1]][0], told[1][2]))
            seen.add((letter[0], meeting))
        frames = one[1][stand][0], two[1][goal][0]
        due = {("join", meeting) for meeting in join_meetings(*frames, match)}
        due |= {(word, meeting) for word in one[0] for meeting in meetings(*frames, match)}
        self.assertEqual(seen, due)

    def test_against_two_talkers(self):
        chance = random.Random(13)
        for frame, other in PAIRS:
            one = keeping_machine(chance, ("a", "k"), ((), frame, chance.choice(FRAMES), (1, 1)))
            two = keeping_machine(chance, ("a", "k"), ((), other, (2,), (2, 2)), ("x",))
            some = matches(frame, other)
            for match in chance.sample(some, min(len(some), 6)):
                self.assert_as_talkers(one, two, (1, 1, match))

    def test_a_machine_with_itself(self):
        chance = random.Random(14)
        for _ in range(12):
            machine = some_machine(chance, ("a",), ((), (2, 2), (1, 2), (0, 1)))
            for stand in range(4):
                for match in chance.sample(matches(*[machine[1][stand][0]] * 2), 1):
                    self.assert_as_talkers(machine, machine, (stand, stand, match))

    def holding(self, mark):
        """Holds a house; at a join of it with a strange one it stays, and says it."""
        keep = (((0,), ()),)
        rules = ((1, keep, ("x",)), (1, keep, ("x",)), (1, keep, ("x",)), (1, keep, (mark, (0,))))
        return (("a",), (((), ((1, (((-1,), ()),), ("x",)), (0, (), ("x",)))), ((0,), rules)))

    def test_a_house_of_the_one_joined_with_a_house_of_the_other(self):
        one = self.holding("y")
        by = (1, 1, ())
        self.assertEqual(gone_on(one, one, by, "join", ((-1, 0), (-1, 0))), (True, (1, 1, ((0, 0, ()),))))
        self.assertEqual(gone_on(one, one, by, "join", ((-1, 0), (-1, -1))), (False, (1, 1, ())))
        self.assertEqual(gone_on(one, self.holding("z"), by, "join", ((-1, 0), (-1, 0))), (False, (1, 1, ((0, 0, ()),))))
        told = gone_on(one=one, other=one, by=(1, 1, ((0, 0, ()),)), word="join", meeting=((-1, 0), (-1, 0)))
        self.assertEqual(told, (True, (1, 1, ((0, 0, ()),))))

    def test_what_the_one_holds_may_be_what_the_other_reads(self):
        keep = (((0,), ((0, 0),)),)
        rules = (
            (1, (((-1,), ((-1, -1),)),), ("x", (-1, -1))), (1, (((0,), ((0, -1),)),), ("x", (0, -1))),
            (1, keep, ("x", (0, 0))), (1, keep, ("x",)), (1, keep, ("x",)),
        )
        machine = (("a",), (((), ((1, (((-1,), ((-1, -1),)),), ("x",)), (0, (), ("x",)))), ((1,), rules)))
        whole = ((0, 0, ((0, 0),)),)
        self.assertEqual(gone_on(machine, machine, (1, 1, ()), "a", ((0, 0), (-1, -1))), (True, (1, 1, whole)))
        self.assertEqual(gone_on(machine, machine, (1, 1, ()), "a", ((-1, -1), (0, -1))), (True, (1, 1, whole)))
        self.assertEqual(gone_on(machine, machine, (1, 1, ((0, 0, ()),)), "a", ((0, -1), (0, 0))), (True, (1, 1, whole)))
        self.assertEqual(gone_on(machine, machine, (1, 1, ()), "join", ((-1, 0), (-1, -1))), (True, (1, 1, ())))


if __name__ == "__main__":
    unittest.main()
