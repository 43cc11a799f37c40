"""Points 16 and 3 (e): what is held in vain, and the core."""

import random
import unittest

from makers import SlowTalker, copied, holder, keeping_machine, some_copies, some_frames, some_history, things_of
from strangeseats.alike import alike_from, shows_alike, shows_parted
from strangeseats.vain import core, in_vain, vain_paper


def match_of(frame, things):
    """The match of a frame with itself that pairs these things."""
    return tuple(
        (at, at, tuple((k, k) for k in range(many) if (at, k) in things))
        for at, many in enumerate(frame) if (at,) in things
    )


def all_but(frame, thing):
    kept = [other for other in things_of(frame) if other != thing and not (len(thing) == 1 and other[0] == thing[0])]
    return match_of(frame, kept)


class Vain(unittest.TestCase):
    def test_a_seat_never_said_nor_asked_for(self):
        machine = holder((2,), {("a", (0, 0)): ("again",)})
        self.assertEqual(in_vain(machine, 1), ((0, 1),))
        self.assertEqual(core(machine, 1), ((0,), (0, 0)))

    def test_a_house_with_all_beneath_it(self):
        machine = holder((1, 2), {("a", (0, 0)): ("again",)})
        self.assertEqual(in_vain(machine, 1), ((1, 0), (1, 1)))
        # The join of both marks house 1; without that it is in vain as well.
        words, stands = machine
        keep = (((0,), ((0, 0),)), ((1,), ()))
        quiet = (words, stands[:1] + (((1, 0), ((1, keep, ("x",)),) * 2 + ((1, keep, ("again",)),) + ((1, keep, ("x",)),) * 4 + (
            (2, (((0,), ((0, 0),)),), ("x",)),)),) + (((1,), ((2, keep[:1], ("x",)),) * 2 + ((2, keep[:1], ("again",)),) + (
                (2, keep[:1], ("x",)),) * 2),))
        self.assertEqual(in_vain(machine=quiet, stand=1), ((1,),))
        self.assertEqual(core(machine=quiet, stand=1), ((0,), (0, 0)))
        self.assertEqual(in_vain(quiet, 2), ())

    def test_a_house_held_without_any_seat(self):
        machine = holder((0,), {("join", (-1, 0)): ("grown",)})
        self.assertEqual((in_vain(machine, 1), core(machine, 1)), ((), ((0,),)))
        machine = holder((2,), {("join", (-1, 0)): ("grown",)})
        self.assertEqual((in_vain(machine, 1), core(machine, 1)), (((0, 0), (0, 1)), ((0,),)))
        self.assertEqual(in_vain(holder((2,), {}), 1), ((0,), (0, 0), (0, 1)))
        self.assertEqual(core(holder((2,), {}), 1), ())

    def test_the_first_stand_holds_nothing(self):
        self.assertEqual((in_vain(holder((2,), {}), 0), core(holder((2,), {}), 0)), ((), ()))

    def test_two_seats_that_look_alike_are_needed_both(self):
        machine = holder((2,), {("a", (0, 0)): ("again",), ("a", (0, 1)): ("again",)})
        self.assertEqual(in_vain(machine, 1), ())

    def test_each_by_alike_from(self):
        chance = random.Random(31)
        for _ in range(60):
            machine = keeping_machine(chance, chance.choice((("a",), ("a", "k"))), some_frames(chance, 4), ("x",))
            for stand, (frame, _) in enumerate(machine[1]):
                vain = in_vain(machine, stand)
                for thing in things_of(frame):
                    by = (stand, stand, all_but(frame, thing))
                    told = vain_paper(machine, stand, thing)
                    self.assertEqual(told, alike_from(machine, machine, by))
                    self.assertEqual(told[0] == "alike", thing in vain)
                    if told[0] == "alike":
                        self.assertIs(shows_alike(machine, machine, by, told[1]), True)
                    else:
                        self.assertIs(shows_parted(machine, machine, by, told[1]), True)

    def test_what_was_put_in_for_nothing(self):
        chance = random.Random(32)
        many = 0
        for _ in range(60):
            machine = keeping_machine(chance, ("a",), some_frames(chance, 4))
            copies = some_copies(chance, machine, 6 - len(machine[1]))
            other = copied(chance, machine, copies)
            for stand, copy in enumerate(copies):
                vain, old = in_vain(other, stand), in_vain(machine, copy.old)
                led = [thing for thing in copy.vain()]
                for at, house, pairs in copy.core_match():
                    led += [(at,)] if (house,) in old else []
                    led += [(at, k) for k, l in pairs if (house, l) in old]
                many += len(copy.vain())
                self.assertEqual(vain, tuple(sorted(led)))
        self.assertGreater(many, 50)

    def test_all_in_vain_together_and_the_core_is_all_others(self):
        chance = random.Random(33)
        for _ in range(60):
            machine = keeping_machine(chance, ("a",), some_frames(chance, 4), ("x",))
            for stand, (frame, _) in enumerate(machine[1]):
                vain, kept = in_vain(machine, stand), core(machine, stand)
                self.assertEqual(sorted(vain + kept), things_of(frame))
                self.assertEqual((vain, kept), (tuple(sorted(vain)), tuple(sorted(kept))))
                for thing in vain:
                    beneath = [other for other in things_of(frame) if other[0] == thing[0]]
                    self.assertTrue(len(thing) == 2 or set(beneath) <= set(vain))
                told = alike_from(machine, machine, (stand, stand, match_of(frame, kept)))
                self.assertEqual(told[0], "alike")

    def test_other_things_in_vain_are_answered_alike(self):
        chance = random.Random(34)
        for _ in range(60):
            machine = keeping_machine(chance, ("a",), some_frames(chance, 4), ("x",))
            for stand, (frame, _) in enumerate(machine[1]):
                vain = in_vain(machine, stand)
                plain = tuple((at, tuple((at, k) for k in range(many))) for at, many in enumerate(frame))
                other = tuple(
                    (at + 3 if (at,) in vain else at, tuple(
                        (at + 3 if (at,) in vain else at, k + 3 if (at, k) in vain else k) for k in range(many)
                    ))
                    for at, many in enumerate(frame)
                )
                talkers = SlowTalker(machine, stand, plain), SlowTalker(machine, stand, other)
                for letter in some_history(chance, 20, words=("a",)):
                    self.assertEqual(*[talker.read(letter) for talker in talkers])


if __name__ == "__main__":
    unittest.main()
