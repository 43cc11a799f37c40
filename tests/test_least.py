"""Points 19, 20 and 3 (c): the least machine, and how others go onto it."""

import itertools
import random
import unittest

from makers import (
    FRAMES, ODD_THINGS, copied, holder, keeping_machine, marked_otherwise, same, slow_lines, some_copies, some_frames,
    some_history, some_machine, spoilt, things_of,
)
from strangeseats.alike import alike, shows_alike
from strangeseats.errors import NotLeast, Unlike
from strangeseats.kin import kin, turnings
from strangeseats.least import is_least, least, onto, shows_onto
from strangeseats.machines import is_machine, reached
from strangeseats.matches import joined_match, matches, turned_match
from strangeseats.meetings import gone_on, join_meetings, meetings
from strangeseats.talkers import answers
from strangeseats.vain import core


def classes(machine):
    """The stands reached, those that are kin together."""
    rows = []
    for stand in reached(machine):
        for row in rows:
            if kin(machine, stand, machine, row[0]):
                row.append(stand)
                break
        else:
            rows.append([stand])
    return rows


def form(things):
    """How many seats beneath each house of these things, told without an order."""
    return sorted(len([other for other in things if len(other) == 2 and other[0] == thing[0]])
                  for thing in things if len(thing) == 1)


def size(machine):
    return len(machine[1]), sum(len(things_of(frame)) for frame, _ in machine[1])


def silent_ring(many):
    """Stands without pockets, each going to the next, all saying the same."""
    return (("a",), tuple(((), (((at + 1) % many, (), ("x",)),) * 2) for at in range(many)))


def counting_ring(many):
    """Stands without pockets, each going to the next, the last saying otherwise."""
    return (("a",), tuple(((), (((at + 1) % many, (), ("y" if at == many - 1 else "x",)),) * 2) for at in range(many)))


def both_seats():
    """Remembers two names of one house; either read again is told alike, so that the seats may be turned."""
    keep = (((0,), ((0, 0), (0, 1))),)
    one = (((0,), ((0, 0),)),)
    rules = ((1, one, ("x",)), (2, (((0,), ((0, 0), (0, -1))),), ("x",)), (1, one, ("x",)), (1, one, ("x",)), (1, one, ("x",)))
    last = tuple((2, keep, ("again",) if case in ((0, 0), (0, 1)) else ("x",)) if word == "a" else (2, keep, ("x",))
                 for word, case in slow_lines(("a",), (2,)))
    return (("a",), (((), ((1, (((-1,), ((-1, -1),)),), ("x",)), (0, (), ("x",)))), ((1,), rules), ((2,), last)))


def some_machines(chance, many):
    machines = [silent_ring(6), counting_ring(6), both_seats(), holder((2, 2), {}), silent_ring(1)]
    for _ in range(many):
        words = chance.choice((("a",), ("a", "k"), ("b", "k", "zz")))
        frames = some_frames(chance, chance.choice((2, 4)))
        machine = keeping_machine(chance, words, frames, chance.choice((("x",), ("x", "y"))))
        machines.append(machine)
        machines.append(copied(chance, machine, some_copies(chance, machine, chance.randrange(7 - len(machine[1])))))
    return machines


class Least(unittest.TestCase):
    def test_one_stand_of_six(self):
        told = least(machine=silent_ring(6))
        self.assertTrue(same(told, silent_ring(1)))
        self.assertEqual(size(least(counting_ring(6))), (6, 0))
        self.assertIs(is_least(machine=counting_ring(6)), True)
        self.assertIs(is_least(silent_ring(6)), False)
        self.assertIs(is_least(silent_ring(1)), True)

    def test_stands_that_no_rule_leads_to(self):
        machine = holder((2, 2), {("a", (0, 0)): ("again",)})
        self.assertEqual(reached(machine), (0,))
        self.assertTrue(same(least(machine), silent_ring(1)))
        self.assertIs(is_least(machine), False)

    def test_seats_that_may_be_turned(self):
        machine = both_seats()
        self.assertTrue(is_machine(machine))
        self.assertIs(is_least(machine), True)
        self.assertEqual(len(turnings(machine, 2)), 2)
        self.assertEqual(size(least(machine)), size(machine))

    def test_a_seat_in_vain_where_no_two_are_kin(self):
        near = {("a", (0, -1)): ("near",), ("a", (0, 0)): ("near",)}
        words, stands = holder((1,), near)
        first = ((1, (((-1,), ((-1, -1),)),), ("x",)), (0, (), ("x",)))
        machine = (words, (((), first),) + stands[1:])
        self.assertEqual((reached(machine), core(machine, 1)), ((0, 1), ((0,),)))
        self.assertIs(is_least(machine), False)
        self.assertEqual([frame for frame, _ in least(machine)[1]], [(), (0,)])
        self.assertIs(is_least(least(machine)), True)
        self.assertRaises(NotLeast, onto, machine, machine)
        self.assertEqual(onto(machine, least(machine)), ((0, 0, ()), (1, 1, ((0, 0, ()),))))

    def test_what_the_least_machine_is(self):
        chance = random.Random(51)
        for machine in some_machines(chance, 40):
            told = least(machine)
            self.assertTrue(is_machine(told))
            self.assertEqual(told[0], machine[0])
            rows = classes(machine)
            self.assertEqual(len(told[1]), len(rows))
            forms = sorted(form(core(machine, row[0])) for row in rows)
            self.assertEqual(sorted(sorted(frame) for frame, _ in told[1]), forms)
            paper = alike(machine, told)
            self.assertEqual(paper[0], "alike")
            self.assertTrue(shows_alike(machine, told, (0, 0, ()), paper[1]))
            history = some_history(chance, 25, words=machine[0])
            self.assertEqual(answers(machine, history), answers(told, history))

    def test_is_least_just_where_nothing_can_be_left_out(self):
        chance = random.Random(52)
        seen = set()
        for machine in some_machines(chance, 40):
            told = least(machine)
            self.assertIs(is_least(told), True)
            self.assertEqual(size(least(told)), size(told))
            seen.add(is_least(machine))
            self.assertIs(is_least(machine), size(told) == size(machine))
        self.assertEqual(seen, {True, False})

    def test_least_by_its_words(self):
        chance = random.Random(53)
        for machine in some_machines(chance, 20):
            stands = range(len(machine[1]))
            due = reached(machine) == tuple(stands)
            due = due and all(list(core(machine, stand)) == things_of(machine[1][stand][0]) for stand in stands)
            due = due and not any(kin(machine, *pair[:1], machine, pair[1]) for pair in itertools.combinations(stands, 2))
            self.assertIs(is_least(machine), due)

    def test_a_machine_and_a_greater_one(self):
        chance = random.Random(54)
        for _ in range(30):
            machine = keeping_machine(chance, ("a",), some_frames(chance, 4))
            other = copied(chance, machine, some_copies(chance, machine, 6 - len(machine[1])))
            self.assertEqual(size(least(machine)), size(least(other)))
            self.assertLessEqual(len(least(machine)[1]), len(reached(machine)))


def slow_onto(machine, small):
    rows = []
    for stand in reached(machine):
        goals = [goal for goal in range(len(small[1])) if kin(machine, stand, small, goal)]
        assert len(goals) == 1
        rows.append((stand, goals[0], min(kin(machine, stand, small, goals[0]))))
    return tuple(rows)


def slow_shows_onto(machine, small, thing):
    """As point 20 words it, each row looked up among all that could be one."""
    known = {}
    for stand, goal in itertools.product(range(len(machine[1])), range(len(small[1]))):
        for match in matches(machine[1][stand][0], small[1][goal][0]):
            known[repr((stand, goal, match))] = True
    if not is_least(small) or type(thing) is not tuple or not all(repr(row) in known for row in thing):
        return False
    if tuple(row[0] for row in thing) != reached(machine) or thing[0] != (0, 0, ()):
        return False
    return all(slow_row(machine, small, thing, row) for row in thing)


def slow_row(machine, small, thing, row):
    stand, goal, match = row
    frames = machine[1][stand][0], small[1][goal][0]
    paired = [(i,) for i, j, pairs in match] + [(i, k) for i, j, pairs in match for k, l in pairs]
    others = [(j,) for i, j, pairs in match] + [(j, l) for i, j, pairs in match for k, l in pairs]
    if sorted(paired) != list(core(machine, stand)) or sorted(others) != things_of(frames[1]):
        return False
    letters = [("join", meeting) for meeting in join_meetings(*frames, match)]
    letters += [(word, meeting) for word in machine[0] for meeting in meetings(*frames, match)]
    for word, meeting in letters:
        alike_said, (p, q, m) = gone_on(machine, small, row, word, meeting)
        told = [other[2] for other in thing if other[:2] == (p, q)]
        if not alike_said or not told:
            return False
        if m not in [joined_match(told[0], turning) for turning in turnings(small, q)]:
            return False
    return True


class Onto(unittest.TestCase):
    def test_row_by_row(self):
        chance = random.Random(55)
        for machine in some_machines(chance, 30):
            small = least(machine)
            told = onto(machine, small)
            self.assertTrue(same(told, slow_onto(machine, small)))
            self.assertIs(shows_onto(machine, small, told), True)
            self.assertEqual([row[1] for row in onto(small, small)], list(range(len(small[1]))))

    def test_a_greater_one_goes_onto_the_least_of_its_own(self):
        chance = random.Random(56)
        for _ in range(25):
            machine = keeping_machine(chance, ("a",), some_frames(chance, 4))
            small = least(machine)
            copies = some_copies(chance, small, 6 - len(small[1]))
            other = copied(chance, small, copies)
            told = onto(machine=other, small=small)
            for stand, goal, match in told:
                self.assertEqual(goal, copies[stand].old)
                rows = kin(other, stand, small, goal)
                self.assertEqual(match, rows[0])
                group = turnings(small, goal)
                for one, two in itertools.product(rows, rows):
                    self.assertIn(joined_match(turned_match(one), two), group)

    def test_the_least_match_where_there_are_several(self):
        machine = both_seats()
        small = machine
        whole = ((0, 0, ((0, 0), (1, 1))),)
        crossed = ((0, 0, ((0, 1), (1, 0))),)
        self.assertEqual(onto(machine, small), ((0, 0, ()), (1, 1, ((0, 0, ((0, 0),)),)), (2, 2, whole)))
        rows = ((0, 0, ()), (1, 1, ((0, 0, ((0, 0),)),)), (2, 2, crossed))
        self.assertIs(shows_onto(machine=machine, small=small, thing=rows), True)

    def test_other_matches_of_kin(self):
        chance = random.Random(57)
        small = both_seats()
        for _ in range(10):
            machine = copied(chance, small, some_copies(chance, small, 3))
            told = onto(machine, small)
            choices = [[(stand, goal, match) for match in kin(machine, stand, small, goal)] for stand, goal, _ in told]
            for thing in itertools.product(*choices):
                self.assertIs(shows_onto(machine, small, thing), True)

    def test_not_least_then_unlike(self):
        small, other = counting_ring(2), some_machine(random.Random(3), ("a", "k"), ((), (1,)))
        self.assertRaises(NotLeast, onto, small, silent_ring(2))
        self.assertRaises(NotLeast, onto, silent_ring(2), silent_ring(2))
        self.assertRaises(NotLeast, onto, other, silent_ring(2))
        self.assertRaises(Unlike, onto, other, small)
        self.assertRaises(Unlike, onto, silent_ring(2), small)
        self.assertRaises(Unlike, onto, counting_ring(3), small)
        self.assertEqual(onto(counting_ring(4), least(counting_ring(4)))[0], (0, 0, ()))

    def test_machines_that_are_not_alike(self):
        chance = random.Random(58)
        for _ in range(20):
            machine = keeping_machine(chance, ("a",), some_frames(chance, 4))
            small = least(machine)
            other = marked_otherwise(chance, machine, chance.choice(reached(machine)))
            if alike(other, small)[0] == "parted":
                self.assertRaises(Unlike, onto, other, small)
                self.assertIs(shows_onto(other, small, onto(machine, small)), False)

    def test_rows_left_out_twice_exchanged_and_otherwise(self):
        chance = random.Random(59)
        for machine in some_machines(chance, 8) + [copied(chance, both_seats(), some_copies(chance, both_seats(), 3))]:
            small = least(machine)
            told = onto(machine, small)
            for at, (stand, goal, match) in enumerate(told):
                others = [told[:at] + told[at + 1:], told[:at + 1] + told[at:], told[:at] + told[at + 1:] + told[at:at + 1]]
                for other in range(len(small[1])):
                    rows = matches(machine[1][stand][0], small[1][other][0])
                    for row in chance.sample(rows, min(len(rows), 6)):
                        others.append(told[:at] + ((stand, other, row),) + told[at + 1:])
                for thing in others:
                    self.assertIs(shows_onto(machine, small, thing), slow_shows_onto(machine, small, thing))

    def test_spoilt_in_each_part(self):
        chance = random.Random(60)
        machine = copied(chance, both_seats(), some_copies(chance, both_seats(), 2))
        small = least(machine)
        told = onto(machine, small)
        for thing in spoilt(told):
            self.assertIs(shows_onto(machine, small, thing), slow_shows_onto(machine, small, thing))

    def test_small_that_is_not_least(self):
        ring = silent_ring(2)
        self.assertIs(shows_onto(ring, ring, ((0, 0, ()), (1, 1, ()))), False)
        self.assertIs(shows_onto(ring, silent_ring(1), ((0, 0, ()), (1, 0, ()))), True)

    def test_another_first_row(self):
        ring = counting_ring(2)
        self.assertIs(shows_onto(ring, ring, ((0, 0, ()), (1, 1, ()))), True)
        self.assertIs(shows_onto(ring, ring, ((0, 1, ()), (1, 0, ()))), False)
        self.assertIs(shows_onto(ring, ring, ((1, 1, ()), (0, 0, ()))), False)
        turned = (("a",), ring[1][1:] + ring[1][:1])
        turned = (("a",), tuple((frame, tuple((1 - goal, fill, saying) for goal, fill, saying in rules)) for frame, rules in turned[1]))
        self.assertEqual(kin(turned, 0, ring, 1), ((),))
        self.assertIs(shows_onto(turned, ring, ((0, 1, ()), (1, 0, ()))), False)

    def test_things_of_any_kind(self):
        machine = both_seats()
        told = onto(machine, machine)
        for thing in ODD_THINGS + ((),):
            for paper in (thing, (thing,), told[:2] + (thing,), told + (thing,), (thing,) + told[1:], told[:2] + ((2, 2, thing),)):
                self.assertIs(shows_onto(machine, machine, paper), False)

    def test_no_machine_that_answers_so_is_smaller(self):
        chance = random.Random(61)
        for machine in some_machines(chance, 20):
            small = least(machine)
            for stand, goal, match in onto(machine, small):
                self.assertGreaterEqual(len(things_of(machine[1][stand][0])), len(things_of(small[1][goal][0])))
            self.assertEqual({row[1] for row in onto(machine, small)}, set(range(len(small[1]))))
        self.assertEqual(len(FRAMES), 13)


if __name__ == "__main__":
    unittest.main()
