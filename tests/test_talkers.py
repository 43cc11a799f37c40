"""Points 11 and 3 (a): Talkers and their answers."""

import random
import unittest

from makers import (
    FRAMES, ODD_THINGS, SlowTalker, renumbered, same, slow_lines, some_frames, some_history, some_letter, some_machine,
    spoilt, world_behind,
)
from strangeseats.errors import Missing, NoLetter, Nothing, Refused
from strangeseats.letters import houses_in, is_letter, names_in, plain
from strangeseats.machines import is_machine
from strangeseats.talkers import Talker, answers
from strangeseats.worlds import World


def machine_saying_all(words, frame):
    """Two stands: the second keeps what it holds, and marks each line with a mark of its own."""
    fill = tuple(((at,), tuple((at, seat) for seat in range(many))) for at, many in enumerate(frame))
    first = tuple((0, (), ("x",)) for line in slow_lines(words, ()))
    rows = []
    for at, (word, case) in enumerate(slow_lines(words, frame)):
        mark = "abcdefghijklmnopqrstuvwxyz"[at]
        if (word, case) == ("join", (0, 1)):
            rows.append((0, (), (mark, (0,))))
        elif word == "join":
            rows.append((1, fill, (mark, (case[1],))))
        else:
            rows.append((1, fill, (mark, case, (case[0],))))
    return (words, (((), first), (frame, tuple(rows))))


# Remembers the house and the name first read; later says them, and what was read.
FIRST = (
    ("a",),
    (
        ((), ((1, (((-1,), ((-1, -1),)),), ("new", (-1, -1), (-1,))), (0, (), ("two", (-1,))))),
        (
            (1,),
            (
                (1, (((0,), ((0, 0),)),), ("far", (0,), (-1,))),
                (1, (((0,), ((0, 0),)),), ("near", (0, 0), (0, -1))),
                (1, (((0,), ((0, 0),)),), ("again", (0, 0), (0,))),
                (1, (((0,), ((0, 0),)),), ("others", (-1,), (0,))),
                (1, (((0,), ((0, 0),)),), ("grown", (0,), (0, 0))),
            ),
        ),
    ),
)
# Holds two houses, with a name and with none; at a join of both it holds the one house that they are.
BOTH = (
    ("a",),
    (
        ((), ((1, (((-1,), ()),), ("p", (-1,))), (0, (), ("q",)))),
        (
            (0,),
            (
                (2, (((-1,), ((-1, -1),)), ((0,), ())), ("r", (0,), (-1, -1))),
                (1, (((0,), ()),), ("s", (0, -1))),
                (1, (((0,), ()),), ("t",)),
                (1, (((0,), ()),), ("u", (0,))),
            ),
        ),
        (
            (1, 0),
            (
                (2, (((0,), ((0, 0),)), ((1,), ())), ("v",)),
                (2, (((0,), ((0, -1),)), ((1,), ())), ("w", (0, 0), (0, -1))),
                (2, (((0,), ((0, 0),)), ((1,), ())), ("again", (0, 0))),
                (2, (((1,), ((1, -1),)), ((0,), ())), ("turn", (1,), (0,))),
                (2, (((0,), ((0, 0),)), ((1,), ())), ("strange", (-1,))),
                (2, (((0,), ((0, 0),)), ((1,), ())), ("first", (0,), (1,))),
                (2, (((0,), ((0, 0),)), ((1,), ())), ("second", (0,), (1,))),
                (1, (((0,), ()),), ("one", (0,), (0, 0))),
            ),
        ),
    ),
)


def told(talker):
    world = talker.world()
    numbers = tuple(world.numbers(house) for house in range(12))
    return talker.stand(), talker.held(), talker.letters(), talker.said(), world.joins(), numbers


class Reading(unittest.TestCase):
    def test_the_machines_are_machines(self):
        self.assertTrue(is_machine(FIRST) and is_machine(BOTH))

    def test_a_talk(self):
        talker = Talker(FIRST)
        self.assertEqual((talker.stand(), talker.held(), talker.letters(), talker.said()), (0, (), (), ()))
        self.assertEqual(talker.read(("a", 7, 3)), ("new", (7, 3), (7,)))
        self.assertEqual((talker.stand(), talker.held()), (1, ((7, ((7, 3),)),)))
        self.assertEqual(talker.read(("a", 7, 4)), ("near", (7, 3), (7, 4)))
        self.assertEqual(talker.read(("a", 8, 3)), ("far", (7,), (8,)))
        self.assertEqual(talker.read(letter=("a", 7, 3)), ("again", (7, 3), (7,)))
        self.assertEqual(talker.letters(), (("a", 7, 3), ("a", 7, 4), ("a", 8, 3), ("a", 7, 3)))
        self.assertEqual(talker.said()[1], ("near", (7, 3), (7, 4)))
        self.assertEqual(len(talker.said()), 4)

    def test_names_of_another_number_of_the_same_house_behind_a_join(self):
        talker = Talker(FIRST)
        talker.read(("a", 7, 3))
        self.assertEqual(talker.read(("a", 2, 3)), ("far", (7,), (2,)))
        self.assertEqual(talker.read(("join", 2, 7)), ("grown", (2,), (7, 3)))
        self.assertEqual(talker.held(), ((2, ((7, 3),)),))
        self.assertEqual(talker.read(("a", 2, 3)), ("near", (7, 3), (2, 3)))
        self.assertEqual(talker.read(("a", 7, 3)), ("again", (7, 3), (2,)))
        self.assertEqual(talker.read(("join", 2, 9)), ("grown", (2,), (7, 3)))
        self.assertEqual(talker.read(("a", 9, 9)), ("near", (7, 3), (9, 9)))

    def test_what_is_said_is_called_as_it_is_behind_the_letter(self):
        talker = Talker(FIRST)
        self.assertEqual(talker.read(("join", 3, 5)), ("two", (3,)))
        self.assertEqual(talker.read(("a", 5, 0)), ("new", (5, 0), (3,)))
        self.assertEqual(talker.held(), ((3, ((5, 0),)),))
        self.assertEqual(talker.read(("join", 6, 8)), ("others", (6,), (3,)))
        self.assertEqual(talker.read(("a", 8, 1)), ("far", (3,), (6,)))
        self.assertEqual(talker.read(("join", 1, 3)), ("grown", (1,), (5, 0)))
        self.assertEqual(talker.read(("join", 1, 6)), ("grown", (1,), (5, 0)))
        self.assertEqual(talker.read(("a", 8, 1)), ("near", (5, 0), (8, 1)))

    def test_a_join_of_both_houses_held(self):
        talker = Talker(BOTH)
        self.assertEqual(talker.read(("a", 4, 4)), ("p", (4,)))
        self.assertEqual(talker.read(("a", 4, 4)), ("s", (4, 4)))
        self.assertEqual(talker.read(("a", 6, 1)), ("r", (4,), (6, 1)))
        self.assertEqual(talker.held(), ((6, ((6, 1),)), (4, ())))
        self.assertEqual(talker.read(("join", 4, 5)), ("second", (6,), (4,)))
        self.assertEqual(talker.read(("join", 2, 6)), ("first", (2,), (4,)))
        self.assertEqual(talker.read(("join", 3, 7)), ("strange", (3,)))
        self.assertEqual(talker.read(("join", 2, 4)), ("one", (2,), (6, 1)))
        self.assertEqual(talker.held(), ((2, ()),))
        self.assertEqual(talker.read(("a", 5, 0)), ("s", (5, 0)))

    def test_names_met_again_and_forgotten(self):
        talker = Talker(BOTH)
        for letter in (("a", 4, 4), ("a", 6, 1)):
            talker.read(letter)
        self.assertEqual(talker.read(("a", 6, 2)), ("w", (6, 1), (6, 2)))
        self.assertEqual(talker.read(("a", 6, 1)), ("w", (6, 2), (6, 1)))
        self.assertEqual(talker.read(("a", 6, 1)), ("again", (6, 1)))
        self.assertEqual(talker.read(("a", 4, 4)), ("turn", (4,), (6,)))
        self.assertEqual(talker.held(), ((4, ((4, 4),)), (6, ())))
        self.assertEqual(talker.read(("a", 6, 1)), ("turn", (6,), (4,)))
        self.assertEqual(talker.read(("a", 9, 0)), ("v",))

    def test_each_word_and_case_of_all_frames(self):
        for frame in FRAMES:
            machine = machine_saying_all(("a", "zz"), frame)
            self.assertTrue(is_machine(machine))
            filling = tuple(
                (at + 3, tuple((at + 3, seat + 5) for seat in range(many))) for at, many in enumerate(frame)
            )
            joins = ((9, 1), (4, 8))
            houses = {-1: 1, 0: 3, 1: 4}
            for at, (word, case) in enumerate(slow_lines(("a", "zz"), frame)):
                mark = "abcdefghijklmnopqrstuvwxyz"[at]
                talker = Talker(machine, stand=1, filling=filling, joins=joins)
                if word == "join":
                    pair = sorted((0 if case == (-1, -1) else houses[case[0]], houses[case[1]]))
                    self.assertEqual(talker.read(("join",) + tuple(pair)), (mark, (pair[0],)))
                else:
                    name = (9 if case[0] == -1 else houses[case[0]], case[1] + 5)
                    self.assertEqual(talker.read((word,) + name), (mark, name, (houses[case[0]],)))

    def test_begun_at_any_stand_filled_in_the_world_of_joins(self):
        talker = Talker(machine=BOTH, stand=2, filling=((2, ((8, 0),)), (3, ())), joins=((8, 2), (3, 5)))
        self.assertEqual(told(talker)[:4], (2, ((2, ((8, 0),)), (3, ())), (), ()))
        self.assertEqual(talker.world().joins(), ((8, 2), (3, 5)))
        self.assertEqual(talker.read(("a", 8, 0)), ("again", (8, 0)))
        self.assertEqual(talker.read(("a", 2, 0)), ("w", (8, 0), (2, 0)))
        self.assertEqual(talker.read(("join", 2, 3)), ("one", (2,), (2, 0)))
        self.assertEqual(talker.world().joins(), ((8, 2), (3, 5), (2, 3)))
        self.assertRaises(TypeError, Talker, BOTH, 2, (), ())

    def test_against_a_slow_talker(self):
        chance = random.Random(11)
        for _ in range(60):
            words = chance.choice((("a",), ("a", "k"), ("b", "k", "zz")))
            machine = some_machine(chance, words, some_frames(chance, 5))
            talker, slow = Talker(machine), SlowTalker(machine)
            for letter in some_history(chance, 25, most=chance.randrange(3, 9), words=words):
                self.assertEqual(talker.read(letter), slow.read(letter))
                self.assertEqual((talker.stand(), talker.held()), (slow.stand, slow.held()))

    def test_two_hundred_letters(self):
        chance = random.Random(12)
        machine = some_machine(chance, ("a",), ((), (2, 1), (1, 2)))
        history = some_history(chance, 200, most=60, words=("a",))
        talker, slow = Talker(machine), SlowTalker(machine)
        for letter in history:
            self.assertEqual(talker.read(letter), slow.read(letter))
        self.assertEqual(talker.letters(), history)
        self.assertEqual(answers(machine, history), talker.said())
        for _ in history:
            talker.back()
        self.assertEqual(told(talker), told(Talker(machine)))


class NoLetters(unittest.TestCase):
    def assert_refused(self, talker, thing):
        before = told(talker)
        with self.assertRaises(NoLetter) as caught:
            talker.read(thing)
        self.assertIs(caught.exception.letter, thing)
        self.assertIsInstance(caught.exception, Refused)
        self.assertEqual(told(talker), before)

    def test_what_is_no_letter_there(self):
        talker = Talker(BOTH, joins=((2, 9),))
        talker.read(("a", 4, 4))
        talker.read(("join", 4, 6))
        talker.read(("a", 2, 0))
        for letter in (
            ("b", 0, 0), ("A", 0, 0), ("a", -1, 0), ("a", 0, -1), ("a", True, 0), ("a", 0, False), ["a", 0, 0], ("a", 0),
            ("a", 0, 0, 0), ("join", 3, 2), ("join", 2, 2), ("join", 2, 9), ("join", 4, 6), ("join", 0, 9), ("join", 6, 7),
            ("join", 4, 2), ("join", 0, "4"), ("join", 0), "a", b"a", ("a", "0", 0), (("a",), 0, 0),
        ):
            self.assert_refused(talker, letter)
        self.assertEqual(talker.read(("join", 2, 4)), ("one", (2,), (2, 0)))

    def test_things_of_any_kind(self):
        talker = Talker(FIRST)
        talker.read(("a", 0, 0))
        for thing in ODD_THINGS:
            self.assert_refused(talker, thing)

    def test_letters_spoilt(self):
        for letter in (("a", 0, 1), ("join", 0, 1)):
            things = [thing for thing in spoilt(letter) if not is_letter(("a",), thing)]
            self.assertGreater(len(things), 30)
            for thing in things:
                self.assert_refused(Talker(FIRST), thing)


class Back(unittest.TestCase):
    def test_letter_by_letter_to_none_then_nothing(self):
        chance = random.Random(13)
        for _ in range(20):
            machine = some_machine(chance, ("a", "k"), some_frames(chance))
            joins = chance.choice(((), ((8, 7), (1, 0))))
            talker, kept = Talker(machine, joins=joins), []
            for _ in range(20):
                kept.append(told(talker))
                talker.read(some_letter(chance, talker.world(), ("a", "k")))
            while kept:
                self.assertIsNone(talker.back())
                self.assertEqual(told(talker), kept.pop())
            self.assertRaises(Nothing, talker.back)
            self.assertRaises(Missing, talker.back)
            self.assertEqual(told(talker), told(Talker(machine, joins=joins)))

    def test_joins_handed_in_are_never_taken_back(self):
        talker = Talker(FIRST, joins=((0, 1),))
        self.assertRaises(Nothing, talker.back)
        talker.read(("join", 0, 2))
        talker.back()
        self.assertRaises(Nothing, talker.back)
        self.assertEqual(talker.world().joins(), ((0, 1),))

    def test_what_was_taken_back_may_be_read_again(self):
        talker = Talker(BOTH)
        for letter in (("a", 4, 4), ("a", 6, 1), ("join", 4, 6)):
            talker.read(letter)
        talker.back()
        self.assertEqual(talker.read(("a", 6, 1)), ("again", (6, 1)))
        self.assertEqual(talker.read(("join", 4, 6)), ("one", (4,), (6, 1)))

    def test_a_refused_letter_is_not_there_to_take_back(self):
        talker = Talker(FIRST)
        self.assertRaises(NoLetter, talker.read, ("b", 0, 0))
        self.assertRaises(Nothing, talker.back)


class Twins(unittest.TestCase):
    def test_twins_go_on_by_themselves(self):
        talker = Talker(BOTH, joins=((8, 9),))
        for letter in (("a", 4, 4), ("join", 4, 5), ("a", 6, 1)):
            talker.read(letter)
        before = told(talker)
        twin = talker.twin()
        self.assertIsInstance(twin, Talker)
        self.assertEqual(told(twin), before)
        self.assertEqual(twin.read(("join", 4, 6)), ("one", (4,), (6, 1)))
        self.assertEqual(told(talker), before)
        for _ in range(4):
            twin.back()
        self.assertRaises(Nothing, twin.back)
        self.assertEqual(told(twin), told(Talker(BOTH, joins=((8, 9),))))
        self.assertEqual(told(talker), before)

    def test_a_talker_goes_on_without_its_twin(self):
        talker = Talker(BOTH)
        for letter in (("a", 4, 4), ("a", 6, 1)):
            talker.read(letter)
        twin = talker.twin()
        before = told(twin)
        talker.read(("join", 4, 6))
        talker.back()
        talker.back()
        talker.read(("join", 0, 4))
        self.assertEqual(told(twin), before)

    def test_worlds_go_on_by_themselves(self):
        talker = Talker(FIRST, joins=((0, 1),))
        talker.read(("join", 2, 3))
        before = told(talker)
        world = talker.world()
        self.assertIsInstance(world, World)
        world.join(0, 2)
        self.assertEqual(told(talker), before)
        for _ in range(3):
            world.back()
        self.assertRaises(Nothing, world.back)
        self.assertEqual(told(talker), before)
        world = talker.world()
        talker.read(("join", 0, 2))
        self.assertEqual(world.joins(), ((0, 1), (2, 3)))

    def test_tuples_are_told(self):
        talker = Talker(FIRST)
        talker.read(("a", 0, 0))
        for thing in (talker.held(), talker.letters(), talker.said(), talker.read(("join", 0, 1))):
            self.assertIs(type(thing), tuple)
        self.assertTrue(same(talker.held(), ((0, ((0, 0),)),)))


class Answers(unittest.TestCase):
    letters = (("a", 4, 4), ("a", 6, 1), ("join", 4, 6), ("a", 5, 5))
    said = (("p", (4,)), ("r", (4,), (6, 1)), ("one", (4,), (6, 1)), ("r", (4,), (5, 5)))

    def test_by_places_and_by_names(self):
        self.assertEqual(answers(BOTH, self.letters), self.said)
        self.assertEqual(answers(machine=BOTH, letters=self.letters, stand=0, filling=(), joins=()), self.said)
        self.assertEqual(answers(BOTH, ()), ())
        self.assertRaises(TypeError, answers, BOTH, (), 0)

    def test_at_a_stand_in_a_world(self):
        filling = ((2, ((8, 0),)), (3, ()))
        letters = (("a", 8, 0), ("join", 2, 3))
        self.assertEqual(
            answers(BOTH, letters, stand=2, filling=filling, joins=((8, 2),)),
            (("again", (8, 0)), ("one", (2,), (8, 0))),
        )

    def test_nothing_handed_in_is_changed(self):
        joins = ((8, 2),)
        answers(BOTH, self.letters, joins=joins)
        self.assertEqual((joins, self.letters[0]), (((8, 2),), ("a", 4, 4)))


class LikeHistories(unittest.TestCase):
    def assert_like(self, machine, history, other):
        names = dict(zip(names_in(history), names_in(other), strict=True))
        numbers = dict(zip(houses_in(history), houses_in(other), strict=True))
        rows = zip(answers(machine, history), answers(machine, other), strict=True)
        for at, (saying, again) in enumerate(rows):
            self.assertEqual(saying[0], again[0])
            world = world_behind(other[:at + 1])
            for thing, like in zip(saying[1:], again[1:], strict=True):
                if len(thing) == 2:
                    self.assertEqual(names[thing], like)
                else:
                    self.assertEqual((world.called(numbers[thing[0]]),), like)

    def test_other_numbers_and_the_plain_one(self):
        chance = random.Random(14)
        for _ in range(60):
            words = chance.choice((("a",), ("a", "k")))
            machine = some_machine(chance, words, some_frames(chance, 5))
            history = some_history(chance, 20, words=words)
            self.assert_like(machine, history, plain(history))
            self.assert_like(machine, history, renumbered(history, chance))


if __name__ == "__main__":
    unittest.main()
