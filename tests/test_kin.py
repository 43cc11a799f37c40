"""Points 17, 18 and 3 (f): stands that are kin, and their turnings."""

import itertools
import random
import unittest

from makers import (
    ODD_THINGS, copied, holder, keeping_machine, same, slow_lines, some_copies, some_frames, some_machine, spoilt,
)
from strangeseats.alike import alike_from, shows_parted
from strangeseats.errors import Unlike
from strangeseats.kin import kin, shows_unkin, turnings, unkin_paper
from strangeseats.matches import joined_match, matches, turned_match
from strangeseats.talkers import Talker
from strangeseats.vain import core


def things_paired(match):
    ones = [(i,) for i, j, pairs in match] + [(i, k) for i, j, pairs in match for k, l in pairs]
    return tuple(sorted(ones))


def slow_core_matches(one, stand, other, goal):
    mine, theirs = core(one, stand), core(other, goal)
    return [
        match for match in matches(one[1][stand][0], other[1][goal][0])
        if things_paired(match) == mine and things_paired(turned_match(match)) == theirs
    ]


def slow_kin(one, stand, other, goal):
    rows = slow_core_matches(one, stand, other, goal)
    return tuple(match for match in rows if alike_from(one, other, (stand, goal, match))[0] == "alike")


def led_core_match(copy, old_core):
    """How a copy was made, of the old core alone: a match of the copy's frame and the old one."""
    rows = []
    for at, house, pairs in copy.core_match():
        if (house,) in old_core:
            rows.append((at, house, tuple((k, l) for k, l in pairs if (house, l) in old_core)))
    return tuple(rows)


MARKS = {
    (0, 0): ("again",), (0, 1): ("again",), (1, 0): ("again",), (1, 1): ("again",), (0, -1): ("near",), (1, -1): ("near",),
}
GROWN = {("join", (-1, 0)): ("grown",), ("join", (-1, 1)): ("grown",)}


def marked(frame, **others):
    """Holds all; what is held looks alike but where told otherwise."""
    told = {("a", case): saying for case, saying in MARKS.items()}
    return holder(frame, {**told, **GROWN, **{("a", case): (mark,) for mark, case in others.items()}})


class Kin(unittest.TestCase):
    def test_a_seat_more_in_vain(self):
        one, other = holder((1,), {("a", (0, 0)): ("again",)}), holder((2,), {("a", (0, 1)): ("again",)})
        self.assertEqual(kin(one, 1, other, 1), (((0, 0, ((0, 1),)),),))
        self.assertEqual(kin(one=other, stand=1, other=one, goal=1), (((0, 0, ((1, 0),)),),))
        self.assertIsNone(unkin_paper(one, 1, other, 1))
        self.assertEqual(kin(one, 0, other, 0), ((),))
        self.assertEqual(kin(one, 0, other, 1), ())

    def test_each_match_and_no_other(self):
        chance = random.Random(41)
        many = {}
        machines = [marked((2,)), marked((1, 1)), marked((0, 0)), marked((2, 1))]
        for _ in range(40):
            words = chance.choice((("a",), ("a", "k")))
            machines.append(keeping_machine(chance, words, some_frames(chance, 4), ("x",)))
        for machine in machines:
            copies = some_copies(chance, machine, 6 - len(machine[1]))
            other = copied(chance, machine, copies)
            for goal, copy in enumerate(copies):
                for stand in range(len(machine[1])):
                    told = kin(other, goal, machine, stand)
                    self.assertTrue(same(told, slow_kin(other, goal, machine, stand)))
                    many[len(told)] = many.get(len(told), 0) + 1
                    if stand == copy.old:
                        self.assertIn(led_core_match(copy, core(machine, stand)), told)
        self.assertGreater(min(many.get(number, 0) for number in (0, 1, 2)), 5, many)

    def test_stands_of_one_machine(self):
        chance = random.Random(42)
        for _ in range(30):
            machine = keeping_machine(chance, ("a",), some_frames(chance, 3))
            copies = some_copies(chance, machine, 2)
            other = copied(chance, machine, copies)
            for stand, goal in itertools.product(range(len(copies)), repeat=2):
                told = kin(other, stand, other, goal)
                self.assertEqual(told, slow_kin(other, stand, other, goal))
                if copies[stand].old == copies[goal].old:
                    self.assertTrue(told)
                self.assertEqual(tuple(sorted(turned_match(match) for match in told)), kin(other, goal, other, stand))

    def test_unlike_words_ahead_of_all_else(self):
        one, other = holder((1,), {}), some_machine(random.Random(1), ("a", "k"), ((), (1,)))
        for thing in ODD_THINGS + ((),):
            self.assertRaises(Unlike, shows_unkin, one, 1, other, 1, thing)
        self.assertRaises(Unlike, kin, one, 1, other, 1)
        self.assertRaises(Unlike, unkin_paper, other, 0, one, 0)


class Unkin(unittest.TestCase):
    def test_cores_of_unlike_forms(self):
        one, other = marked((1,)), marked((2,))
        self.assertEqual(unkin_paper(one=one, stand=1, other=other, goal=1), ())
        self.assertIs(shows_unkin(one, 1, other, 1, ()), True)
        for thing in ODD_THINGS + (((((0, 0, ()),), (("a", 0, 0),)),), []):
            self.assertIs(shows_unkin(one, 1, other, 1, thing), False)
        self.assertEqual(unkin_paper(marked((1, 0)), 1, marked((1, 1)), 1), ())

    def test_cores_of_like_forms(self):
        one, other = marked((2,)), marked((2,), thrice=(0, 1))
        told = unkin_paper(one, 1, other, 1)
        self.assertEqual(
            told, ((((0, 0, ((0, 0), (1, 1))),), (("a", 0, 1),)), (((0, 0, ((0, 1), (1, 0))),), (("a", 0, 0),))),
        )
        self.assertIs(shows_unkin(one, 1, other, 1, told), True)

    def test_cores_of_like_forms_beside_things_in_vain(self):
        one, other = holder((2,), {("a", (0, 0)): ("again",)}), holder((2,), {("a", (0, 1)): ("thrice",)})
        self.assertEqual((core(one, 1), core(other, 1)), (((0,), (0, 0)), ((0,), (0, 1))))
        told = unkin_paper(one, 1, other, 1)
        self.assertEqual(told, ((((0, 0, ((0, 1),)),), (("a", 0, 0),)),))
        self.assertIs(shows_unkin(one, 1, other, 1, told), True)
        for match in matches((2,), (2,)):
            if match != told[0][0]:
                self.assertIs(shows_unkin(one, 1, other, 1, ((match, (("a", 0, 0),)),)), False)
                self.assertIs(shows_unkin(one, 1, other, 1, tuple(sorted(told + ((match, (("a", 0, 0),)),)))), False)
        back = unkin_paper(other, 1, one, 1)
        self.assertEqual(back, ((((0, 0, ((1, 0),)),), (("a", 0, 1),)),))

    def test_papers_of_all_kinds_of_stands(self):
        chance = random.Random(43)
        many = {}
        for _ in range(60):
            machine = keeping_machine(chance, ("a",), some_frames(chance, 4), ("x",))
            other = chance.choice((machine, keeping_machine(chance, ("a",), some_frames(chance, 4), ("x",))))
            for stand, goal in itertools.product(range(len(machine[1])), range(len(other[1]))):
                told = unkin_paper(machine, stand, other, goal)
                rows = slow_core_matches(machine, stand, other, goal)
                if slow_kin(machine, stand, other, goal):
                    self.assertIsNone(told)
                    told = tuple((match, (("a", 0, 0),)) for match in rows)
                    self.assertIs(shows_unkin(machine, stand, other, goal, told), False)
                    self.assertIs(shows_unkin(machine, stand, other, goal, ()), False)
                    self.assertIs(shows_unkin(machine, stand, other, goal, None), False)
                else:
                    due = tuple((match, alike_from(machine, other, (stand, goal, match))[1]) for match in rows)
                    self.assertTrue(same(told, due))
                    self.assertIs(shows_unkin(machine, stand, other, goal, told), True)
                    many[len(due)] = many.get(len(due), 0) + 1
        self.assertGreater(min(many.get(number, 0) for number in (0, 1, 2)), 5, many)

    def test_rows_left_out_twice_turned_about_and_other_talks(self):
        one, other = marked((2,)), marked((2,), thrice=(0, 1))
        first, second = unkin_paper(one, 1, other, 1)
        for thing in ((first,), (second,), (first, first, second), (second, first), (first, second, second), (first, first), ()):
            self.assertIs(shows_unkin(one, 1, other, 1, thing), False)
        late = (first[0], (("a", 9, 9), ("a", 0, 1)))
        self.assertIs(shows_unkin(one=one, stand=1, other=other, goal=1, thing=(late, second)), True)
        for talk in ((("a", 0, 0),), (), (("a", 0, 1), ("a", 0, 1)), (("b", 0, 1),), [("a", 0, 1)], (["a", 0, 1],), None):
            self.assertIs(shows_unkin(one, 1, other, 1, ((first[0], talk), second)), False)

    def test_spoilt_in_each_part(self):
        one, other = marked((2,)), marked((2,), thrice=(0, 1))
        told = unkin_paper(one, 1, other, 1)
        for thing in spoilt(told):
            due = False
            if type(thing) is tuple and len(thing) == 2 and all(type(row) is tuple and len(row) == 2 for row in thing):
                kept = [same(row[0], right[0]) for row, right in zip(thing, told)]
                due = all(kept) and all(
                    shows_parted(one, other, (1, 1, right[0]), row[1]) for row, right in zip(thing, told)
                )
            self.assertIs(shows_unkin(one, 1, other, 1, thing), due)

    def test_things_of_any_kind(self):
        one, other = marked((2,)), marked((2,), thrice=(0, 1))
        first, second = unkin_paper(one, 1, other, 1)
        for thing in ODD_THINGS:
            for paper in (thing, (thing,), (thing, second), (first, thing), ((first[0], thing), second), ((thing, first[1]), second)):
                self.assertIs(shows_unkin(one, 1, other, 1, paper), False)


class Turnings(unittest.TestCase):
    def test_one_two_four_and_eight(self):
        self.assertEqual(turnings(marked(()), 1), ((),))
        self.assertEqual(turnings(machine=marked((1,)), stand=1), (((0, 0, ((0, 0),)),),))
        self.assertEqual(turnings(marked((2,)), 1), (((0, 0, ((0, 0), (1, 1))),), ((0, 0, ((0, 1), (1, 0))),)))
        self.assertEqual(turnings(marked((2,), first=(0, 0)), 1), (((0, 0, ((0, 0), (1, 1))),),))
        self.assertEqual(turnings(marked((0, 0)), 1), (((0, 0, ()), (1, 1, ())), ((0, 1, ()), (1, 0, ()))))
        self.assertEqual(len(turnings(marked((1, 1)), 1)), 2)
        self.assertEqual(len(turnings(marked((2, 2), nigh=(1, -1)), 1)), 4)
        self.assertEqual(len(turnings(marked((2, 2)), 1)), 8)

    def test_two_pockets_filled_from_each_other(self):
        # Each name of the house moves both seats about, so that only both turnings together, or none, are alike.
        turn = (((0,), ((0, 1), (0, 0))),)
        rules = tuple((1, turn, ("x",) if case != (0, 0) else ("again",)) for word, case in slow_lines(("a",), (2,)))
        machine = (("a",), (((), ((0, (), ("x",)),) * 2), ((2,), rules)))
        self.assertEqual(len(turnings(machine, 1)), 1)
        self.assertEqual(core(machine, 1), ((0,), (0, 0), (0, 1)))

    def test_groups(self):
        chance = random.Random(44)
        machines = [marked((2, 2)), marked((2, 2), nigh=(1, -1)), marked((1, 1)), marked((2,))]
        machines += [keeping_machine(chance, ("a",), some_frames(chance, 4), ("x",)) for _ in range(30)]
        for machine in machines:
            for stand in range(len(machine[1])):
                group = turnings(machine, stand)
                kept = core(machine, stand)
                whole = tuple((i, i, tuple((k, k) for h, k in [row for row in kept if len(row) == 2] if h == i))
                              for i, in [row for row in kept if len(row) == 1])
                self.assertIn(whole, group)
                self.assertIn(len(group), (1, 2, 4, 8))
                self.assertEqual(group, kin(machine, stand, machine, stand))
                for one in group:
                    self.assertIn(turned_match(one), group)
                    for two in group:
                        self.assertIn(joined_match(one, two), group)

    def test_kin_have_the_same_group_led_along(self):
        chance = random.Random(45)
        machines = [marked((2, 2)), marked((2, 2), nigh=(1, -1)), marked((1, 1)), marked((2,)), marked((2, 0))]
        machines += [keeping_machine(chance, ("a",), some_frames(chance, 4), ("x",)) for _ in range(15)]
        for machine in machines:
            copies = some_copies(chance, machine, 2)
            other = copied(chance, machine, copies)
            for stand, copy in enumerate(copies):
                for match in kin(other, stand, machine, copy.old):
                    led = [
                        joined_match(turned_match(match), joined_match(turning, match)) for turning in turnings(other, stand)
                    ]
                    self.assertEqual(tuple(sorted(led)), turnings(machine, copy.old))

    def test_a_turned_filling_is_answered_alike(self):
        one, other = ((0, ((0, 0), (0, 1))), (1, ((1, 0), (1, 1)))), ((1, ((1, 1), (1, 0))), (0, ((0, 0), (0, 1))))
        machine = marked((2, 2))
        talkers = Talker(machine, stand=1, filling=one), Talker(machine, stand=1, filling=other)
        for letter in (("a", 0, 0), ("a", 1, 0), ("a", 1, 5), ("join", 1, 4), ("a", 4, 4), ("a", 7, 0), ("join", 0, 1)):
            self.assertEqual(*[talker.read(letter) for talker in talkers])


if __name__ == "__main__":
    unittest.main()
