"""Points 22 and 23: two machines as one."""

import random
import unittest

from makers import (
    ODD_THINGS, SlowTalker, copied, keeping_machine, marked_otherwise, some_copies, some_frames, some_letter, some_machine,
)
from strangeseats.alike import alike
from strangeseats.errors import NoLetter, Nothing, Unlike
from strangeseats.least import least
from strangeseats.machines import is_machine
from strangeseats.pairs import Beside, Chain
from strangeseats.worlds import World


def one_stand(words, sayings):
    """One stand without pockets that says these things of each word, and of a join."""
    return (words, (((), tuple((0, (), saying) for saying in sayings)),))


# Keeps the last house and name.
LAST = (
    ("k",),
    (
        ((), ((1, (((-1,), ((-1, -1),)),), ("new", (-1, -1))), (0, (), ("two", (-1,))))),
        (
            (1,),
            (
                (1, (((-1,), ((-1, -1),)),), ("far", (0, 0))),
                (1, (((0,), ((0, -1),)),), ("near", (0, 0))),
                (1, (((0,), ((0, 0),)),), ("again", (0,))),
                (1, (((0,), ((0, 0),)),), ("others", (-1,))),
                (1, (((0,), ((0, 0),)),), ("grown", (0,))),
            ),
        ),
    ),
)


def slow_chain(one, other, history):
    """What a Chain says, by two Talkers told apart."""
    first, second = SlowTalker(one), SlowTalker(other)
    out = []
    for letter in history:
        said = first.read(letter)
        if letter[0] == "join":
            out.append(second.read(letter))
        elif len(said) == 2 and len(said[1]) == 2 and said[0] in other[0]:
            out.append(second.read((said[0], said[1][0], said[1][1])))
        else:
            out.append(None)
    return out, (first.held(), second.held())


class BesideOne(unittest.TestCase):
    def test_letter_by_letter(self):
        chance = random.Random(81)
        for _ in range(30):
            words = chance.choice((("a",), ("a", "k")))
            one, other = (some_machine(chance, words, some_frames(chance)) for _ in range(2))
            pair, talkers, world = Beside(one, other), (SlowTalker(one), SlowTalker(other)), World()
            for _ in range(15):
                letter = some_letter(chance, world, words)
                if letter[0] == "join":
                    world.join(*letter[1:])
                self.assertEqual(pair.read(letter), tuple(talker.read(letter) for talker in talkers))
                self.assertEqual(pair.held(), tuple(talker.held() for talker in talkers))

    def test_unlike_words(self):
        one, other = one_stand(("a",), (("x",),) * 2), one_stand(("a", "b"), (("x",),) * 3)
        self.assertRaises(Unlike, Beside, one, other)
        self.assertRaises(Unlike, Beside, one=other, other=one)
        self.assertEqual(Chain(one, other).read(("a", 0, 0)), None)

    def test_alike_just_where_pairs_of_the_same_are_said(self):
        chance = random.Random(82)
        for _ in range(30):
            machine = keeping_machine(chance, ("a",), some_frames(chance, 4))
            other = copied(chance, machine, some_copies(chance, machine, 1))
            pair, world = Beside(machine, other), World()
            for _ in range(15):
                letter = some_letter(chance, world, ("a",))
                said = pair.read(letter)
                if letter[0] == "join":
                    world.join(*letter[1:])
                self.assertEqual(said[0], said[1])
            verdict, talk = alike(machine, marked_otherwise(chance, other, 0))
            self.assertEqual(verdict, "parted")

    def test_the_talk_that_parts_them(self):
        chance = random.Random(83)
        for _ in range(20):
            machine = keeping_machine(chance, ("a",), some_frames(chance, 4))
            other = marked_otherwise(chance, machine, 0)
            pair = Beside(one=machine, other=other)
            said = [pair.read(letter) for letter in alike(machine, other)[1]]
            self.assertNotEqual(*said[-1])
            for row in said[:-1]:
                self.assertEqual(*row)


class ChainOne(unittest.TestCase):
    def test_the_machine(self):
        self.assertTrue(is_machine(LAST))

    def test_what_is_read_and_what_is_not(self):
        for saying, due in (
            (("k", (-1, -1)), ("new", (5, 3))), (("k",), None), (("k", (-1,)), None), (("k", (-1, -1), (-1, -1)), None),
            (("k", (-1, -1), (-1,)), None), (("x", (-1, -1)), None), (("kk", (-1, -1)), None),
        ):
            chain = Chain(one_stand(("a",), (saying, ("k", (-1,)))), LAST)
            self.assertEqual(chain.read(("a", 5, 3)), due)
            self.assertEqual(chain.held()[0], ())
            self.assertEqual(chain.held()[1], ((5, ((5, 3),)),) if due else ())

    def test_at_a_join_the_join_alone_is_read(self):
        first = one_stand(("a",), (("k", (-1, -1)), ("k", (-1,))))
        chain = Chain(one=first, other=LAST)
        self.assertEqual(chain.read(("join", 2, 9)), ("two", (2,)))
        self.assertEqual(chain.read(letter=("a", 9, 1)), ("new", (9, 1)))
        self.assertEqual(chain.read(("join", 1, 2)), ("grown", (1,)))
        self.assertEqual(chain.read(("a", 2, 1)), ("near", (9, 1)))
        self.assertEqual(chain.read(("a", 2, 1)), ("again", (1,)))
        self.assertEqual(chain.held(), ((), ((1, ((2, 1),)),)))

    def test_a_name_said_at_a_join_falls(self):
        # The first keeps the name that it read first, and says it at each join as a word of the second.
        keep = (((0,), ((0, 0),)),)
        rules = ((1, keep, ("k", (0, 0))),) * 5
        first = (("a",), (((), ((1, (((-1,), ((-1, -1),)),), ("x",)), (0, (), ("x",)))), ((1,), rules)))
        chain = Chain(first, LAST)
        self.assertIsNone(chain.read(("a", 4, 4)))
        self.assertEqual(chain.read(("join", 4, 5)), ("two", (4,)))
        self.assertEqual(chain.read(("a", 9, 9)), ("new", (4, 4)))
        self.assertEqual(chain.read(("join", 8, 9)), ("others", (8,)))

    def test_letter_by_letter(self):
        chance = random.Random(84)
        read = 0
        for _ in range(60):
            one = some_machine(chance, ("a",), some_frames(chance), ("a", "k", "x"))
            other = some_machine(chance, chance.choice((("a", "k"), ("k",))), some_frames(chance))
            chain, world, history = Chain(one, other), World(), ()
            for _ in range(15):
                letter = some_letter(chance, world, ("a",))
                if letter[0] == "join":
                    world.join(*letter[1:])
                history += (letter,)
                said, held = slow_chain(one, other, history)
                read += said[-1] is not None and letter[0] != "join"
                self.assertEqual(chain.read(letter), said[-1])
                self.assertEqual(chain.held(), held)
        self.assertGreater(read, 30)

    def test_alike_machines_in_either_place(self):
        chance = random.Random(85)
        for _ in range(25):
            one = keeping_machine(chance, ("a",), some_frames(chance), ("a", "k"))
            other = keeping_machine(chance, ("a", "k"), some_frames(chance), ("x", "y"))
            ones = one, copied(chance, one, some_copies(chance, one, 1)), least(one)
            others = other, copied(chance, other, some_copies(chance, other, 1)), least(other)
            chains = [Chain(first, second) for first in ones for second in others]
            world = World()
            for _ in range(12):
                letter = some_letter(chance, world, ("a",))
                if letter[0] == "join":
                    world.join(*letter[1:])
                said = {chain.read(letter) for chain in chains}
                self.assertEqual(len(said), 1)


class Both(unittest.TestCase):
    first = one_stand(("a", "k"), (("k", (-1, -1)), ("x",), ("k", (-1,))))

    def pairs(self):
        yield Beside(LAST, LAST), ("k",)
        yield Chain(self.first, LAST), ("a", "k")

    def test_what_is_no_letter_is_refused(self):
        for pair, words in self.pairs():
            pair.read((words[0], 3, 3))
            pair.read(("join", 3, 5))
            before = pair.held()
            for thing in ODD_THINGS + (("b", 0, 0), ("join", 3, 5), ("join", 5, 6), ("join", 2, 1), ["k", 0, 0], ("k", True, 0)):
                with self.assertRaises(NoLetter) as caught:
                    pair.read(thing)
                self.assertIs(caught.exception.letter, thing)
                self.assertEqual(pair.held(), before)
            pair.back()
            pair.back()
            self.assertRaises(Nothing, pair.back)

    def test_back_to_none_then_nothing(self):
        chance = random.Random(86)
        for _ in range(15):
            for pair, words in self.pairs():
                world, kept = World(), []
                self.assertRaises(Nothing, pair.back)
                for _ in range(15):
                    letter = some_letter(chance, world, words)
                    kept.append((pair.held(), letter))
                    pair.read(letter)
                    if letter[0] == "join":
                        world.join(*letter[1:])
                while kept:
                    self.assertIsNone(pair.back())
                    self.assertEqual(pair.held(), kept.pop()[0])
                self.assertRaises(Nothing, pair.back)
                self.assertEqual(pair.held(), ((), ()))

    def test_what_was_taken_back_may_be_read_again(self):
        for pair, words in self.pairs():
            letters = ((words[0], 3, 3), (words[0], 3, 4), ("join", 1, 3), (words[0], 1, 1))
            said = [pair.read(letter) for letter in letters]
            for _ in letters:
                pair.back()
            self.assertEqual([pair.read(letter) for letter in letters], said)

    def test_twins_go_on_by_themselves(self):
        for pair, words in self.pairs():
            letters = ((words[0], 3, 3), ("join", 3, 5), (words[-1], 7, 0), (words[0], 5, 1))
            for letter in letters:
                pair.read(letter)
            twin = pair.twin()
            self.assertIs(type(twin), type(pair))
            before = pair.held()
            self.assertEqual(twin.held(), before)
            twin.read((words[0], 9, 9))
            twin.read(("join", 3, 9))
            self.assertEqual(pair.held(), before)
            for _ in range(6):
                twin.back()
            self.assertRaises(Nothing, twin.back)
            self.assertEqual((pair.held(), twin.held()), (before, ((), ())))
            again = pair.twin()
            for _ in letters:
                pair.back()
            self.assertRaises(Nothing, pair.back)
            self.assertEqual(again.held(), before)
            for _ in letters:
                again.back()
            self.assertRaises(Nothing, again.back)

    def test_tuples_are_told(self):
        for pair, words in self.pairs():
            self.assertIs(type(pair.held()), tuple)
            self.assertIs(type(pair.read((words[0], 0, 0))), tuple)


if __name__ == "__main__":
    unittest.main()
