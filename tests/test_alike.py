"""Points 14, 15 and 3 (b): alike with a paper, or parted by the least talk."""

import random
import unittest

from makers import (
    FRAMES, ODD_THINGS, copied, keeping_machine, marked_otherwise, renumbered, same, slow_lines, some_copies, some_frames,
    some_history, some_machine, spoilt,
)
from strangeseats.alike import alike, alike_from, shows_alike, shows_parted
from strangeseats.errors import Refused, Unlike
from strangeseats.letters import plain
from strangeseats.machines import reached
from strangeseats.matches import fillings, matches
from strangeseats.meetings import gone_on, join_meetings, meetings
from strangeseats.talkers import Talker, answers

START = (0, 0, ())


def talkers(one, other, by):
    stand, goal, match = by
    pair = fillings(one[1][stand][0], other[1][goal][0], match)
    return Talker(one, stand=stand, filling=pair[0]), Talker(other, stand=goal, filling=pair[1])


def slow_parts(one, other, by, talk):
    pair = talkers(one, other, by)
    same_said = [pair[0].read(letter) == pair[1].read(letter) for letter in talk]
    return same_said == [True] * (len(talk) - 1) + [False]


def read_ahead(pair):
    """The numbers and names of two fillings."""
    numbers = sorted({house for talker in pair for house, _ in talker.held()})
    names = sorted({name for talker in pair for _, below in talker.held() for name in below})
    return numbers, names


def slow_nexts(words, numbers, names, world):
    """The letters that go on plainly, as point 6 words it."""
    called = [number for number in numbers if world.called(number) == number]
    fresh = len(numbers)
    new = [(house, len([name for name in names if name[0] == house])) for house in called] + [(fresh, 0)]
    rows = [(word,) + name for word in words for name in list(names) + new]
    houses = called + [fresh]
    rows += [("join", house, other) for house in houses for other in houses if house < other]
    return sorted(rows + [("join", fresh, fresh + 1)])


def with_new(things, more):
    return things + [thing for thing in more if thing not in things]


def slow_talk(words, pair, numbers, names, left):
    """The least talk of that many letters that parts two Talkers, found by trying all; None where there is none."""
    for letter in slow_nexts(words, numbers, names, pair[0].world()):
        said = [talker.read(letter) for talker in pair]
        found = None
        if left == 1 and said[0] != said[1]:
            found = ()
        if left > 1:
            new_numbers = letter[1:] if letter[0] == "join" else letter[1:2]
            new_names = [] if letter[0] == "join" else [letter[1:]]
            found = slow_talk(words, pair, with_new(numbers, new_numbers), with_new(names, new_names), left - 1)
        for talker in pair:
            talker.back()
        if found is not None:
            return (letter,) + found
    return None


def slow_least_talk(one, other, by, most):
    """The shortest and least talk of at most that many letters."""
    for many in range(1, most + 1):
        pair = talkers(one, other, by)
        found = slow_talk(one[0], pair, *read_ahead(pair), many)
        if found is not None:
            return found
    return None


def slow_paper(one, other, by):
    """All that comes behind a by, by gone_on; None where something is said unlike."""
    found, waiting = {by}, [by]
    while waiting:
        at = waiting.pop()
        frames = one[1][at[0]][0], other[1][at[1]][0]
        rows = [("join", meeting) for meeting in join_meetings(*frames, at[2])]
        rows += [(word, meeting) for word in one[0] for meeting in meetings(*frames, at[2])]
        for word, meeting in rows:
            said_same, behind = gone_on(one, other, at, word, meeting)
            if not said_same:
                return None
            if behind not in found:
                found.add(behind)
                waiting.append(behind)
    return tuple(sorted(found))


def slow_is_paper(one, other, by, thing):
    """Whether anything is a paper, each of its rows looked up among all bys."""
    known = {}
    for stand, (frame, _) in enumerate(one[1]):
        for goal, (other_frame, _) in enumerate(other[1]):
            for match in matches(frame, other_frame):
                known[repr((stand, goal, match))] = (stand, goal, match)
    if type(thing) is not tuple or not all(repr(row) in known for row in thing):
        return False
    closed = all(set(slow_paper(one, other, row) or ("parted",)) <= set(thing) for row in thing)
    return by in thing and closed and list(thing) == sorted(set(thing))


def chain(words, marks):
    """A machine without pockets whose stands come one behind the other, each saying its mark."""
    last = len(marks) - 1
    stands = tuple(
        ((), tuple((min(at + 1, last), (), (mark,)) for line in slow_lines(words, ()))) for at, mark in enumerate(marks)
    )
    return (words, stands)


# Holds the last name read, and says whether the next one is of its house, or it itself.
LAST = (
    ("k",),
    (
        ((), ((1, (((-1,), ((-1, -1),)),), ("new",)), (0, (), ("join" + "s",)))),
        (
            (1,),
            (
                (1, (((-1,), ((-1, -1),)),), ("far",)),
                (1, (((0,), ((0, -1),)),), ("near",)),
                (1, (((0,), ((0, 0),)),), ("again",)),
                (1, (((0,), ((0, 0),)),), ("joins",)),
                (1, (((0,), ((0, 0),)),), ("joins",)),
            ),
        ),
    ),
)


def with_mark(machine, stand, at, mark):
    words, stands = machine
    frame, rules = stands[stand]
    goal, fill, saying = rules[at]
    rules = rules[:at] + ((goal, fill, (mark,) + saying[1:]),) + rules[at + 1:]
    return (words, stands[:stand] + ((frame, rules),) + stands[stand + 1:])


class Alike(unittest.TestCase):
    def test_a_machine_with_itself(self):
        self.assertEqual(alike(LAST, LAST), ("alike", ((0, 0, ()), (1, 1, ((0, 0, ((0, 0),)),)))))
        self.assertEqual(alike(one=LAST, other=LAST), alike_from(LAST, LAST, START))

    def test_alike_by_their_making(self):
        chance = random.Random(21)
        for _ in range(80):
            words = chance.choice((("a",), ("a", "k"), ("b", "k", "zz")))
            machine = keeping_machine(chance, words, some_frames(chance, 4))
            other = copied(chance, machine, some_copies(chance, machine, chance.randrange(7 - len(machine[1]))))
            told = alike(machine, other)
            self.assertEqual(told[0], "alike")
            self.assertTrue(same(told[1], slow_paper(machine, other, START)))
            self.assertIs(shows_alike(machine, other, START, told[1]), True)
            history = some_history(chance, 15, words=words)
            self.assertEqual(answers(machine, history), answers(other, history))
            self.assertIs(shows_parted(machine, other, START, history), False)

    def test_alike_from_any_by_of_a_paper(self):
        chance = random.Random(22)
        many = 0
        for _ in range(40):
            machine = keeping_machine(chance, ("a",), some_frames(chance, 4), ("x",))
            stand = chance.randrange(len(machine[1]))
            frame = machine[1][stand][0]
            for match in chance.sample(matches(frame, frame), 1):
                by = (stand, stand, match)
                told = alike_from(one=machine, other=machine, by=by)
                due = slow_paper(machine, machine, by)
                self.assertEqual(told[0], "alike" if due else "parted")
                if due:
                    many += 1
                    self.assertEqual(told[1], due)
                    for other in due:
                        self.assertIs(shows_alike(machine, machine, other, due), True)
        self.assertGreater(many, 5)

    def test_a_paper_may_hold_more_than_it_must(self):
        paper = alike(LAST, LAST)[1]
        self.assertIs(shows_alike(LAST, LAST, START, paper), True)
        silent = chain(("a",), ("x", "x"))
        least = alike(silent, silent)[1]
        self.assertEqual(least, ((0, 0, ()), (1, 1, ())))
        more = ((0, 0, ()), (0, 1, ()), (1, 1, ()))
        self.assertIs(shows_alike(silent, silent, START, more), True)
        self.assertIs(shows_alike(silent, silent, (0, 1, ()), more), True)
        self.assertIs(shows_alike(silent, silent, (0, 1, ()), ((0, 1, ()), (1, 1, ()))), True)
        self.assertIs(shows_alike(silent, silent, (0, 1, ()), least), False)
        self.assertIs(shows_alike(silent, silent, (1, 0, ()), more), False)


class Papers(unittest.TestCase):
    def test_papers_spoilt_in_each_part(self):
        chance = random.Random(23)
        for many in range(4):
            machine = keeping_machine(chance, ("a",), ((), (1, 1), (2,))[:many + 1])
            other = copied(chance, machine, some_copies(chance, machine, 1))
            paper = alike(machine, other)[1]
            self.assertIs(shows_alike(machine, other, START, paper), True)
            for thing in spoilt(paper):
                self.assertIs(shows_alike(machine, other, START, thing), slow_is_paper(machine, other, START, thing))

    def test_rows_left_out_twice_and_turned_about(self):
        chance = random.Random(24)
        machine = keeping_machine(chance, ("a",), ((), (1,), (1, 1), (2, 0)))
        paper = alike(machine, machine)[1]
        self.assertGreater(len(paper), 2)
        for at in range(len(paper)):
            for thing in (
                paper[:at] + paper[at + 1:], paper[:at + 1] + paper[at:], paper[at:] + paper[:at] if at else paper[::-1],
                paper[:at],
            ):
                self.assertIs(shows_alike(machine, machine, START, thing), False)

    def test_a_by_that_is_parted_spoils_a_paper(self):
        other = with_mark(LAST, 1, 2, "else")
        paper = alike(LAST, LAST)[1]
        self.assertIs(shows_alike(LAST, other, START, paper), False)
        self.assertIs(shows_alike(LAST, LAST, START, paper[:1] + ((1, 1, ((0, 0, ()),)),) + paper[1:]), False)

    def test_things_of_any_kind(self):
        paper = alike(LAST, LAST)[1]
        self.assertIs(shows_alike(LAST, LAST, START, ()), False)
        for thing in ODD_THINGS:
            self.assertIs(shows_alike(LAST, LAST, START, thing), False)
            self.assertIs(shows_alike(LAST, LAST, START, (thing,)), False)
            self.assertIs(shows_alike(LAST, LAST, START, paper + (thing,)), False)
            self.assertIs(shows_alike(one=LAST, other=LAST, by=START, thing=((0, 0, thing),) + paper[1:]), False)
        self.assertIs(shows_alike(LAST, LAST, START, list(paper)), False)


class Parted(unittest.TestCase):
    def assert_least(self, one, other, by, due):
        self.assertEqual(alike_from(one, other, by), ("parted", due))
        self.assertIs(shows_parted(one, other, by, due), True)
        self.assertEqual(slow_least_talk(one, other, by, len(due)), due)

    def test_one_letter(self):
        self.assert_least(LAST, with_mark(LAST, 0, 0, "else"), START, (("k", 0, 0),))
        self.assert_least(LAST, with_mark(LAST, 0, 1, "else"), START, (("join", 0, 1),))
        both = with_mark(with_mark(LAST, 0, 0, "else"), 0, 1, "else")
        self.assert_least(LAST, both, START, (("join", 0, 1),))
        self.assert_least(chain(("a",), ("x",)), chain(("a",), ("y",)), START, (("a", 0, 0),))

    def test_two_letters(self):
        self.assert_least(LAST, with_mark(LAST, 1, 0, "else"), START, (("k", 0, 0), ("k", 1, 0)))
        self.assert_least(LAST, with_mark(LAST, 1, 1, "else"), START, (("k", 0, 0), ("k", 0, 1)))
        self.assert_least(LAST, with_mark(LAST, 1, 2, "else"), START, (("k", 0, 0), ("k", 0, 0)))
        self.assert_least(LAST, with_mark(LAST, 1, 3, "else"), START, (("k", 0, 0), ("join", 1, 2)))
        self.assert_least(LAST, with_mark(LAST, 1, 4, "else"), START, (("k", 0, 0), ("join", 0, 1)))

    def test_behind_fillings(self):
        other = with_mark(LAST, 1, 2, "else")
        whole, house = ((0, 0, ((0, 0),)),), ((0, 0, ()),)
        self.assert_least(LAST, other, (1, 1, whole), (("k", 0, 0),))
        self.assert_least(LAST, LAST, (1, 1, house), (("k", 0, 0),))
        self.assert_least(LAST, LAST, (1, 1, ()), (("k", 0, 0),))
        self.assert_least(LAST, with_mark(LAST, 1, 0, "else"), (1, 1, whole), (("k", 1, 0),))
        self.assert_least(LAST, with_mark(LAST, 1, 1, "else"), (1, 1, whole), (("k", 0, 1),))
        self.assert_least(LAST, with_mark(LAST, 1, 3, "else"), (1, 1, whole), (("join", 1, 2),))

    def test_a_house_that_both_hold_no_more(self):
        marks = ("x",) * 4
        one, other = chain(("a",), marks + ("x",)), chain(("a",), marks + ("y",))
        self.assert_least(one, other, START, (("a", 0, 0),) * 5)
        one, other = chain(("k",), marks + ("x",)), chain(("k",), marks[:2] + ("y",))
        self.assert_least(one, other, START, (("join", 0, 1), ("join", 0, 2), ("join", 0, 3)))

    def test_names_met_and_forgotten(self):
        # Both hold the last name alone; the third name read ahead is strange, and less than a new one.
        keep = (((0,), ((0, 0),)),)
        rules = (
            (2, (((-1,), ((-1, -1),)),), ("x",)), (1, keep, ("x",)), (1, keep, ("x",)), (1, keep, ("x",)), (1, keep, ("x",)),
        )
        last = ((2, keep, ("x",)), (2, keep, ("x",)), (2, keep, ("x",)), (2, keep, ("x",)), (2, keep, ("x",)))
        first = ((1, (((-1,), ((-1, -1),)),), ("x",)), (0, (), ("x",)))
        one = (("a",), (((), first), ((1,), rules), ((1,), last)))
        self.assert_least(one, with_mark(one, 2, 0, "y"), START, (("a", 0, 0), ("a", 1, 0), ("a", 0, 0)))
        self.assert_least(one, with_mark(one, 2, 1, "y"), START, (("a", 0, 0), ("a", 1, 0), ("a", 1, 1)))
        self.assert_least(one, with_mark(one, 2, 4, "y"), START, (("a", 0, 0), ("a", 1, 0), ("join", 0, 1)))
        self.assert_least(one, with_mark(one, 2, 3, "y"), START, (("a", 0, 0), ("a", 1, 0), ("join", 0, 2)))

    def test_other_things_said(self):
        keep = (((0,), ()), ((1,), ()))
        one = (("a",), (
            ((), ((1, (((-1,), ()),), ("x",)), (0, (), ("x",)))),
            ((0,), ((2, (((0,), ()), ((-1,), ())), ("x",)),) + ((1, keep[:1], ("x",)),) * 3),
            ((0, 0), ((2, keep, ("x", (0,))),) * 6 + ((1, keep[:1], ("x", (0,))),)),
        ))
        words, stands = one
        turned = stands[:2] + (((0, 0), ((2, keep, ("x", (1,))),) * 6 + stands[2][1][6:]),)
        self.assert_least(one, (words, turned), START, (("a", 0, 0), ("a", 1, 0), ("a", 0, 0)))
        twice = stands[:2] + (((0, 0), ((2, keep, ("x", (0,), (0,))),) * 6 + stands[2][1][6:]),)
        self.assert_least(one, (words, twice), START, (("a", 0, 0), ("a", 1, 0), ("a", 0, 0)))
        joined = stands[:2] + (((0, 0), stands[2][1][:6] + ((1, keep[:1], ("x",)),)),)
        self.assert_least(one, (words, joined), START, (("a", 0, 0), ("a", 1, 0), ("join", 0, 1)))

    def test_against_all_talks_tried_one_by_one(self):
        chance = random.Random(25)
        lengths = {}
        for _ in range(220):
            words = chance.choice((("a",), ("k",), ("a", "k")))
            one = keeping_machine(chance, words, some_frames(chance, 4), ("x",))
            other = copied(chance, one, some_copies(chance, one, chance.randrange(2)))
            other = marked_otherwise(chance, other, chance.choice(reached(other)))
            by = START
            if chance.randrange(2):
                stand, goal = chance.randrange(len(one[1])), chance.randrange(len(other[1]))
                by = (stand, goal, chance.choice(matches(one[1][stand][0], other[1][goal][0])))
            told = alike_from(one, other, by)
            if told[0] == "parted" and len(told[1]) < 4:
                lengths[len(told[1])] = lengths.get(len(told[1]), 0) + 1
                self.assert_least(one, other, by, told[1])
        self.assertGreater(min(lengths.get(many, 0) for many in (1, 2, 3)), 5, lengths)

    def test_shortest_of_longer_talks(self):
        chance = random.Random(26)
        longest = 0
        for _ in range(150):
            one = keeping_machine(chance, ("a",), ((),) + tuple(chance.choice(FRAMES) for _ in range(4)), ("x",))
            told = alike(one, marked_otherwise(chance, one, chance.choice(reached(one))))
            if told[0] == "parted":
                longest = max(longest, len(told[1]))
                self.assertEqual(plain(told[1]), told[1])
        self.assertGreater(longest, 3)

    def test_just_one_of_the_two(self):
        chance = random.Random(27)
        for _ in range(120):
            words = chance.choice((("a",), ("a", "k")))
            one = some_machine(chance, words, some_frames(chance, 4), ("x",))
            other = chance.choice((one, some_machine(chance, words, some_frames(chance, 3), ("x",))))
            stand, goal = chance.randrange(len(one[1])), chance.randrange(len(other[1]))
            by = (stand, goal, chance.choice(matches(one[1][stand][0], other[1][goal][0])))
            told, paper = alike_from(one, other, by), slow_paper(one, other, by)
            if told[0] == "alike":
                self.assertEqual(told[1], paper)
            else:
                self.assertIsNone(paper)
                self.assertTrue(slow_parts(one, other, by, told[1]))
                self.assertIs(shows_parted(one, other, by, told[1]), True)
                self.assertIs(shows_alike(one, other, by, (by,)), False)


class Talks(unittest.TestCase):
    other = with_mark(LAST, 1, 2, "else")

    def test_talks_that_are_not_plain(self):
        talk = (("k", 7, 5), ("k", 9, 5), ("join", 3, 9), ("k", 3, 2), ("k", 3, 2))
        self.assertIs(shows_parted(LAST, self.other, START, talk), True)
        self.assertIs(shows_parted(one=LAST, other=self.other, by=START, thing=(("k", 3, 9), ("k", 3, 9))), True)
        by = (1, 1, ((0, 0, ((0, 0),)),))
        self.assertIs(shows_parted(LAST, self.other, by, (("k", 0, 0),)), True)
        self.assertIs(shows_parted(LAST, self.other, by, (("k", 0, 1),)), False)
        self.assertIs(shows_parted(LAST, self.other, by, (("k", 8, 8), ("k", 8, 8))), True)

    def test_the_last_letter_alone_is_answered_unlike(self):
        letter = ("k", 4, 4)
        self.assertIs(shows_parted(LAST, self.other, START, (letter, letter)), True)
        self.assertIs(shows_parted(LAST, self.other, START, (letter,)), False)
        self.assertIs(shows_parted(LAST, self.other, START, (letter, letter, letter)), False)
        self.assertIs(shows_parted(LAST, self.other, START, (letter, letter, ("k", 5, 5))), False)
        self.assertIs(shows_parted(LAST, LAST, START, (letter, letter)), False)
        self.assertIs(shows_parted(LAST, self.other, START, ()), False)

    def test_like_talks_part_as_well(self):
        chance = random.Random(28)
        for _ in range(60):
            one = keeping_machine(chance, ("a",), some_frames(chance, 4), ("x",))
            other = marked_otherwise(chance, one, chance.choice(reached(one)))
            told = alike(one, other)
            if told[0] == "parted":
                self.assertIs(shows_parted(one, other, START, renumbered(told[1], chance)), True)

    def test_talks_spoilt_in_each_part(self):
        talk = (("k", 0, 0), ("join", 0, 1), ("k", 0, 0))
        self.assertIs(shows_parted(LAST, self.other, START, talk), True)
        right = 0
        for thing in spoilt(talk):
            due = self.is_talk(thing) and slow_parts(LAST, self.other, START, thing)
            right += due
            self.assertIs(shows_parted(LAST, self.other, START, thing), due, thing)
        self.assertGreater(right, 0)

    def is_talk(self, thing):
        if type(thing) is not tuple or not thing:
            return False
        talker = Talker(LAST)
        try:
            for letter in thing:
                talker.read(letter)
        except Refused:
            return False
        return True

    def test_letters_that_are_none_there(self):
        for thing in (
            (("a", 0, 0),), (("k", 0, 0), ("join", 1, 0), ("k", 0, 0)), (("join", 0, 1), ("k", 0, 0), ("join", 1, 2), ("k", 0, 0)),
            (("k", 0, 0), ("k", False, 0)), (("k", 0, 0), ["k", 0, 0]), [("k", 0, 0), ("k", 0, 0)], (("k", 0, 0), ("k", 0, 0), None),
        ):
            self.assertIs(shows_parted(LAST, self.other, START, thing), False)

    def test_things_of_any_kind(self):
        for thing in ODD_THINGS:
            self.assertIs(shows_parted(LAST, self.other, START, thing), False)
            self.assertIs(shows_parted(LAST, self.other, START, (thing,)), False)
            self.assertIs(shows_parted(LAST, self.other, START, (("k", 0, 0), thing)), False)
            self.assertIs(shows_parted(LAST, self.other, START, (("k", 0, 0), ("k", 0, 0), thing)), False)


class UnlikeWords(unittest.TestCase):
    def test_unlike_words_ahead_of_all_else(self):
        one, other = chain(("a",), ("x",)), chain(("a", "b"), ("x",))
        for first, second in ((one, other), (other, one), (one, chain(("b",), ("x",)))):
            self.assertRaises(Unlike, alike, first, second)
            self.assertRaises(Unlike, alike_from, first, second, START)
            for thing in ODD_THINGS + ((), (START,), (("a", 0, 0),)):
                self.assertRaises(Unlike, shows_alike, first, second, START, thing)
                self.assertRaises(Unlike, shows_parted, first, second, START, thing)

    def test_what_is_told(self):
        for told in (alike(LAST, LAST), alike(LAST, with_mark(LAST, 1, 2, "else"))):
            self.assertIs(type(told), tuple)
            self.assertIs(type(told[1]), tuple)
            self.assertTrue(all(type(row) is tuple for row in told[1]))


if __name__ == "__main__":
    unittest.main()
