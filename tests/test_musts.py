"""Points 21 and 3 (d): what must be held behind a history."""

import random
import unittest

from makers import (
    ODD_THINGS, SlowTalker, copied, holder, keeping_machine, same, some_copies, some_frames, some_history, some_letter,
    spoilt, things_of, world_behind,
)
from strangeseats.errors import Refused
from strangeseats.least import least
from strangeseats.letters import houses_in, names_in
from strangeseats.machines import is_machine
from strangeseats.musts import exchanged, must_hold, must_paper, shows_must
from strangeseats.talkers import Talker
from strangeseats.vain import core

KEEP = (((0,), ((0, 0), (0, 1))), ((1,), ()))
# Holds two names of the first house, and the second house; the second seat is in vain, but said to be held.
TWO = (
    ("a",),
    (
        ((), ((1, (((-1,), ((-1, -1),)),), ("x",)), (0, (), ("x",)))),
        (
            (1,),
            (
                (1, (((0,), ((0, 0),)),), ("x",)),
                (2, (((0,), ((0, 0), (0, -1))),), ("x",)),
                (1, (((0,), ((0, 0),)),), ("again",)),
                (1, (((0,), ((0, 0),)),), ("x",)),
                (1, (((0,), ((0, 0),)),), ("x",)),
            ),
        ),
        (
            (2,),
            (
                (3, (KEEP[0], ((-1,), ())), ("x",)),
                (2, KEEP[:1], ("x",)),
                (2, KEEP[:1], ("again",)),
                (2, KEEP[:1], ("x",)),
                (2, KEEP[:1], ("x",)),
                (2, KEEP[:1], ("x",)),
            ),
        ),
        (
            (2, 0),
            (
                (3, KEEP, ("x",)), (3, KEEP, ("x",)), (3, KEEP, ("again",)), (3, KEEP, ("x",)), (3, KEEP, ("there",)),
                (3, KEEP, ("x",)), (3, KEEP, ("x",)), (3, KEEP, ("x",)), (2, KEEP[:1], ("x",)),
            ),
        ),
    ),
)
HISTORY = (("a", 5, 1), ("a", 5, 0), ("join", 3, 5), ("a", 5, 2), ("a", 8, 0), ("join", 2, 8))


def held_by(talker):
    rows = [(house,) for house, _ in talker.held()]
    return tuple(sorted(rows + [name for _, names in talker.held() for name in names]))


def slow_must(machine, history):
    talker = Talker(machine)
    for letter in history:
        talker.read(letter)
    rows = []
    for thing in core(machine, talker.stand()):
        house, names = talker.held()[thing[0]]
        rows.append((house,) if len(thing) == 1 else names[thing[1]])
    return tuple(sorted(rows))


def slow_exchanged(machine, history, thing):
    talker = Talker(machine)
    for letter in history:
        talker.read(letter)
    rows = []
    for house, names in talker.held():
        if thing == (house,):
            new = max(houses_in(history)) + 1
            rows.append((new, tuple((new, at) for at, _ in enumerate(names))))
        else:
            seats = [seat for seat in range(300) if thing[:1] + (seat,) not in names_in(history)]
            rows.append((house, tuple(thing[:1] + (seats[0],) if name == thing else name for name in names)))
    return tuple(rows)


def two_talkers(machine, history, thing):
    talker = Talker(machine)
    for letter in history:
        talker.read(letter)
    joins = talker.world().joins()
    return (
        SlowTalker(machine, talker.stand(), talker.held(), joins),
        SlowTalker(machine, talker.stand(), slow_exchanged(machine, history, thing), joins),
    )


def slow_parts(machine, history, thing, talk):
    talkers = two_talkers(machine, history, thing)
    said = [talkers[0].read(letter) == talkers[1].read(letter) for letter in talk]
    return said == [True] * (len(talk) - 1) + [False]


class MustHold(unittest.TestCase):
    def test_the_machine(self):
        self.assertTrue(is_machine(TWO))
        self.assertEqual(core(TWO, 3), ((0,), (0, 0), (1,)))

    def test_behind_histories_with_joins(self):
        self.assertEqual(must_hold(TWO, ()), ())
        self.assertEqual(must_hold(TWO, HISTORY[:1]), ((5,), (5, 1)))
        self.assertEqual(must_hold(TWO, HISTORY[:2]), ((5,), (5, 1)))
        self.assertEqual(must_hold(TWO, HISTORY[:3]), ((3,), (5, 1)))
        self.assertEqual(must_hold(machine=TWO, history=HISTORY[:5]), ((3,), (5, 1), (8,)))
        self.assertEqual(must_hold(TWO, HISTORY), ((2,), (3,), (5, 1)))
        self.assertEqual(must_hold(TWO, HISTORY + (("join", 2, 3),)), ((2,), (5, 1)))

    def test_against_the_core(self):
        chance = random.Random(71)
        for _ in range(60):
            machine = keeping_machine(chance, chance.choice((("a",), ("a", "k"))), some_frames(chance, 4), ("x",))
            for many in (0, 3, 12):
                history = some_history(chance, many, words=machine[0])
                self.assertTrue(same(must_hold(machine, history), slow_must(machine, history)))

    def test_just_what_every_machine_that_answers_so_holds(self):
        chance = random.Random(72)
        for _ in range(40):
            machine = keeping_machine(chance, ("a",), some_frames(chance, 4), ("x", "y"))
            other = copied(chance, machine, some_copies(chance, machine, 6 - len(machine[1])))
            small = least(machine)
            for many in (2, 6, 14):
                history = some_history(chance, many, words=("a",))
                must = must_hold(machine, history)
                self.assertEqual(must_hold(other, history), must)
                self.assertEqual(must_hold(small, history), must)
                talkers = Talker(machine), Talker(other), Talker(small)
                for letter in history:
                    for talker in talkers:
                        talker.read(letter)
                self.assertEqual(held_by(talkers[2]), must)
                for talker in talkers:
                    self.assertLessEqual(set(must), set(held_by(talker)))

    def test_two_hundred_letters(self):
        history = tuple(("a", 7, at) for at in range(2)) + tuple(("join", 7, at + 8) for at in range(198))
        self.assertEqual(must_hold(TWO, history), ((7,), (7, 0)))
        self.assertEqual(exchanged(TWO, history, (7,)), ((206, ((206, 0), (206, 1))),))
        paper = must_paper(TWO, history, (7, 0))
        self.assertIs(shows_must(TWO, history, (7, 0), paper), True)


class Exchanged(unittest.TestCase):
    def test_names(self):
        self.assertEqual(exchanged(TWO, HISTORY[:1], (5, 1)), ((5, ((5, 0),)),))
        self.assertEqual(exchanged(TWO, HISTORY[:2], (5, 1)), ((5, ((5, 2), (5, 0))),))
        self.assertEqual(exchanged(machine=TWO, history=HISTORY, thing=(5, 0)), ((3, ((5, 1), (5, 3))), (2, ())))

    def test_seats_of_that_very_number(self):
        history = (("a", 3, 0), ("a", 5, 1), ("join", 3, 5), ("a", 5, 0), ("a", 3, 2))
        self.assertEqual(exchanged(TWO, history, (3, 0)), ((3, ((3, 1), (5, 0))),))
        self.assertEqual(exchanged(TWO, history, (5, 0)), ((3, ((3, 0), (5, 2))),))

    def test_houses_with_names_beneath(self):
        self.assertEqual(exchanged(TWO, HISTORY[:1], (5,)), ((6, ((6, 0),)),))
        self.assertEqual(exchanged(TWO, HISTORY, (3,)), ((9, ((9, 0), (9, 1))), (2, ())))
        self.assertEqual(exchanged(TWO, HISTORY, (2,)), ((3, ((5, 1), (5, 0))), (9, ())))
        self.assertEqual(exchanged(TWO, HISTORY + (("join", 20, 30),), (2,))[1], (31, ()))

    def test_all_that_is_held(self):
        chance = random.Random(73)
        for _ in range(60):
            machine = keeping_machine(chance, ("a",), some_frames(chance, 4), ("x",))
            history = some_history(chance, chance.randrange(1, 14), words=("a",))
            talker = Talker(machine)
            for letter in history:
                talker.read(letter)
            for thing in held_by(talker):
                self.assertTrue(same(exchanged(machine, history, thing), slow_exchanged(machine, history, thing)))


class Papers(unittest.TestCase):
    def test_what_must_be_held_and_what_need_not(self):
        self.assertIsNone(must_paper(TWO, HISTORY, (5, 0)))
        self.assertIsNone(must_paper(TWO, HISTORY, (5, 2)))
        self.assertIsNone(must_paper(TWO, HISTORY, (8,)))
        self.assertIsNone(must_paper(TWO, HISTORY, (77,)))
        self.assertIsNone(must_paper(TWO, (), (0, 0)))
        for thing in ((2,), (3,), (5, 1)):
            filling, talk = must_paper(machine=TWO, history=HISTORY, thing=thing)
            self.assertEqual(filling, exchanged(TWO, HISTORY, thing))
            self.assertTrue(slow_parts(TWO, HISTORY, thing, talk))
            self.assertIs(shows_must(TWO, HISTORY, thing, (filling, talk)), True)

    def test_each_thing_of_many_machines(self):
        chance = random.Random(74)
        kinds = {True: 0, False: 0}
        for _ in range(150):
            machine = keeping_machine(chance, chance.choice((("a",), ("a", "k"))), some_frames(chance, 4), ("x",))
            machine = copied(chance, machine, some_copies(chance, machine, 6 - len(machine[1])))
            history = some_history(chance, chance.randrange(1, 14), words=machine[0])
            talker = Talker(machine)
            for letter in history:
                talker.read(letter)
            must = must_hold(machine, history)
            for thing in held_by(talker):
                paper = must_paper(machine, history, thing)
                kinds[thing in must] += 1
                self.assertEqual(paper is not None, thing in must)
                if paper:
                    self.assertTrue(same(paper[0], slow_exchanged(machine, history, thing)))
                    self.assertGreater(len(paper[1]), 0)
                    self.assertTrue(slow_parts(machine, history, thing, paper[1]))
                    self.assertIs(shows_must(machine, history, thing, paper), True)
                else:
                    self.assert_no_talk_parts(chance, machine, history, thing)
        self.assertGreater(min(kinds.values()), 20, kinds)

    def assert_no_talk_parts(self, chance, machine, history, thing):
        for _ in range(5):
            talkers = two_talkers(machine, history, thing)
            talk = ()
            for _ in range(6):
                letter = some_letter(chance, world_behind(history + talk), machine[0], 9)
                talk += (letter,)
                self.assertEqual(talkers[0].read(letter), talkers[1].read(letter))
            filling = exchanged(machine, history, thing)
            self.assertIs(shows_must(machine, history, thing, (filling, talk)), False)

    def test_other_talks(self):
        filling, talk = must_paper(TWO, HISTORY, (5, 1))
        again = ("a", 5, 1)
        for right in ((again,), (("a", 9, 9), again), (("join", 3, 7), again), (("a", 5, 3),)):
            self.assertIs(shows_must(TWO, HISTORY, (5, 1), (filling, right)), True, right)
        for wrong in (
            (), (again, again), (again, ("a", 0, 0)), (("a", 5, 0),), (("a", 0, 0),), (("join", 5, 7), again), (("b", 5, 1),),
            (("join", 2, 8), again), (["a", 5, 1],), [again], (("a", 5, True),), None, "a", (None,), (again, None),
        ):
            self.assertIs(shows_must(TWO, HISTORY, (5, 1), (filling, wrong)), False, wrong)
            self.assertIs(shows_must(machine=TWO, history=HISTORY, thing=(5, 1), paper=(filling, wrong)), False)

    def test_another_filling(self):
        talk = must_paper(TWO, HISTORY, (5, 1))[1]
        for filling in (
            exchanged(TWO, HISTORY, (3,)), ((3, ((5, 4), (5, 0))), (2, ())), ((3, ((5, 1), (5, 0))), (2, ())), (), None,
            ((3, ((3, 0), (5, 0))), (2, ())), ((3, [(5, 3), (5, 0)]), (2, ())), [(3, ((5, 3), (5, 0))), (2, ())],
        ):
            self.assertIs(shows_must(TWO, HISTORY, (5, 1), (filling, talk)), False, filling)

    def test_things_that_are_not_held(self):
        filling, talk = must_paper(TWO, HISTORY, (5, 1))
        for thing in ((5, 2), (8,), (5,), (9, 9)):
            self.assertIs(shows_must(TWO, HISTORY, thing, (filling, talk)), False)
            self.assertIs(shows_must(TWO, HISTORY, thing, None), False)

    def test_spoilt_in_each_part(self):
        paper = must_paper(TWO, HISTORY, (5, 1))
        for thing in spoilt(paper):
            due = type(thing) is tuple and len(thing) == 2 and same(thing[0], paper[0]) and self.is_right(thing[1])
            self.assertIs(shows_must(TWO, HISTORY, (5, 1), thing), due, thing)

    def is_right(self, talk):
        if type(talk) is not tuple:
            return False
        talker = Talker(TWO, joins=((3, 5), (2, 8)))
        try:
            for letter in talk:
                talker.read(letter)
        except Refused:
            return False
        return slow_parts(TWO, HISTORY, (5, 1), talk)

    def test_things_of_any_kind(self):
        filling, talk = must_paper(TWO, HISTORY, (5, 1))
        for thing in ODD_THINGS + ((),):
            for paper in (thing, (thing,), (filling, thing), (thing, talk), (filling, (thing,)), (filling, talk, thing)):
                self.assertIs(shows_must(TWO, HISTORY, (5, 1), paper), False)

    def test_a_house_held_without_any_seat(self):
        machine = holder((0,), {("join", (-1, 0)): ("grown",)})
        words, stands = machine
        first = ((1, (((-1,), ()),), ("x",)), (0, (), ("x",)))
        machine = (words, (((), first),) + stands[1:])
        self.assertEqual(must_hold(machine, (("a", 4, 4),)), ((4,),))
        filling, talk = must_paper(machine, (("a", 4, 4),), (4,))
        self.assertEqual(filling, ((5, ()),))
        self.assertTrue(slow_parts(machine, (("a", 4, 4),), (4,), talk))
        self.assertEqual(things_of((0,)), [(0,)])


if __name__ == "__main__":
    unittest.main()
