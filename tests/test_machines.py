"""Point 10: what a machine is, its lines and rules, and the stands that histories lead to."""

import random
import unittest

from makers import (
    FRAMES, ODD_THINGS, Odd, all_fills, deep, same, slow_lines, slow_things, some_frames, some_history, some_machine,
    spoilt,
)
from strangeseats.machines import is_machine, lines_of, reached, rule
from strangeseats.talkers import Talker

NO_NAMES = (
    "", "join", "A", "aB", "abcdefghi", "a b", "a1", "a_", "\u00e9", "a\n", " a", None, 0, True, b"a", ("a",), ["a"], Odd(),
)


def slow_is_name(thing):
    letters = "abcdefghijklmnopqrstuvwxyz"
    return type(thing) is str and 1 <= len(thing) <= 8 and set(thing) <= set(letters) and thing != "join"


def tuple_of(thing, *many):
    return type(thing) is tuple and len(thing) in many


def slow_is_machine(thing):
    """What a machine is, each fill looked up among all that there are."""
    if not tuple_of(thing, 2) or not tuple_of(thing[0], 1, 2, 3) or not tuple_of(thing[1], 1, 2, 3, 4, 5, 6):
        return False
    words, stands = thing
    if not all(slow_is_name(word) for word in words) or sorted(set(words)) != list(words):
        return False
    known = {repr(frame) for frame in FRAMES}
    if not all(tuple_of(stand, 2) and repr(stand[0]) in known for stand in stands) or stands[0][0] != ():
        return False
    for frame, rules in stands:
        lines = slow_lines(words, frame)
        if not tuple_of(rules, len(lines)):
            return False
        if not all(slow_is_rule(row, frame, line, stands) for row, line in zip(rules, lines)):
            return False
    return True


def slow_is_rule(row, frame, line, stands):
    if not tuple_of(row, 3) or type(row[0]) is not int or row[0] not in range(len(stands)):
        return False
    goal, fill, saying = row
    if not any(same(fill, due) for due in all_fills(frame, line, stands[goal][0])):
        return False
    if not tuple_of(saying, 1, 2, 3) or not slow_is_name(saying[0]):
        return False
    return all(any(same(thing, due) for due in slow_things(frame, line)) for thing in saying[1:])


def with_rule(machine, stand, at, row):
    """This machine with another rule there."""
    words, stands = machine
    frame, rules = stands[stand]
    return (words, stands[:stand] + ((frame, rules[:at] + (row,) + rules[at + 1:]),) + stands[stand + 1:])


def plain_machine(frames, words=("a",)):
    """A machine each of whose rules goes to the first stand and says x alone."""
    return (words, tuple((frame, ((0, (), ("x",)),) * len(slow_lines(words, frame))) for frame in frames))


SMALL = (("a",), (((), ((0, (), ("x",)), (0, (), ("y", (-1,))))),))
# The second stand's rules: a met at (-1, -1), (0, -1), (0, 0), (1, -1), then joins (-1, -1), (-1, 0), (-1, 1), (0, 1).
BIG = (
    ("a",),
    (
        ((), ((2, (((-1,), ((-1, -1),)),), ("x", (-1, -1), (-1,))), (0, (), ("y", (-1,))))),
        (
            (1, 0),
            (
                (0, (), ("x", (-1,), (1,))),
                (2, (((0,), ((0, -1),)),), ("x", (0, -1), (0, 0))),
                (1, (((0,), ((0, 0),)), ((1,), ())), ("x", (0, 0))),
                (1, (((1,), ((1, -1),)), ((0,), ())), ("x", (1, -1), (1, -1))),
                (2, (((0,), ((0, 0),)),), ("y", (-1,))),
                (1, (((0,), ((0, 0),)), ((1,), ())), ("z",)),
                (1, (((0,), ((0, 0),)), ((1,), ())), ("z",)),
                (2, (((0,), ((0, 0),)),), ("z", (0,), (0, 0))),
            ),
        ),
        (
            (1,),
            (
                (1, (((0,), ((0, 0),)), ((-1,), ())), ("x",)),
                (1, (((0,), ((0, -1),)), ), ("x",)),
                (2, (((0,), ((0, 0),)),), ("x", (0, 0))),
                (2, (((0,), ((0, 0),)),), ("y", (-1,))),
                (2, (((0,), ((0, 0),)),), ("y", (0,))),
            ),
        ),
    ),
)
BIG = with_rule(BIG, 2, 1, (2, (((0,), ((0, -1),)),), ("x",)))


class Machines(unittest.TestCase):
    def test_ordinary_ones(self):
        self.assertIs(is_machine(SMALL), True)
        self.assertIs(is_machine(BIG), True)
        self.assertIs(is_machine(thing=BIG), True)
        self.assertTrue(slow_is_machine(SMALL) and slow_is_machine(BIG))

    def test_one_to_six_stands(self):
        chance = random.Random(10)
        for many in range(1, 7):
            for _ in range(4):
                frames = ((),) + tuple(chance.choice(FRAMES) for _ in range(many - 1))
                words = chance.choice((("a",), ("k", "zz"), ("a", "b", "c")))
                self.assertIs(is_machine(some_machine(chance, words, frames)), True)

    def test_none_and_seven_stands(self):
        self.assertIs(is_machine(plain_machine([()] * 6)), True)
        self.assertIs(is_machine(plain_machine([()] * 7)), False)
        self.assertIs(is_machine(plain_machine([()] * 8)), False)
        self.assertIs(is_machine((("a",), ())), False)

    def test_words(self):
        rules = ((0, (), ("x",)),)
        for words in (("a",), ("abcdefgh",), ("a", "b"), ("a", "aa", "b"), ("joi", "joins"), ("z",)):
            self.assertIs(is_machine((words, (((), rules * (len(words) + 1)),))), True, words)
        for words in (
            (), ("b", "a"), ("a", "a"), ("a", "b", "b"), ("a", "c", "b"), ("a", "b", "c", "d"), ("join",), ("a", "join"),
            ["a"], "a", "ab", None, {"a": 1}, {"a"}, (("a",),), ("a", None), (1, 2), (True,), ("a", Odd()),
        ):
            for many in range(1, 6):
                self.assertIs(is_machine((words, (((), rules * many),))), False, words)
        for word in NO_NAMES:
            self.assertIs(is_machine(((word,), (((), rules * 2),))), False, word)
            self.assertIs(is_machine((("a", word), (((), rules * 3),))), False, word)

    def test_the_first_frame_is_none(self):
        for frame in FRAMES[1:]:
            self.assertIs(is_machine((("a",), plain_machine([(), frame])[1])), True)
            first, second = plain_machine([(), frame])[1]
            machine = (("a",), (second, first))
            self.assertIs(is_machine(machine), False)
            for stand, (_, rules) in enumerate((second, first)):
                for at in range(len(rules)):
                    machine = with_rule(machine, stand, at, (1, (), ("x",)))
            self.assertIs(is_machine(machine), False)
            self.assertIs(is_machine((("a",), machine[1][1:] + machine[1][1:] + machine[1][:1])), True)

    def test_frames(self):
        for frame in ((3,), (0, 3), (-1,), (1, -1), (0, 0, 0), (True,), (0, False), [], [1], None, 1, "1", ((1,),), (None,)):
            for many in range(12):
                thing = (("a",), (((), ((0, (), ("x",)),) * 2), (frame, ((0, (), ("x",)),) * many)))
                self.assertIs(is_machine(thing), False, frame)

    def test_a_rule_more_or_fewer(self):
        for machine in (SMALL, BIG):
            for stand, (frame, rules) in enumerate(machine[1]):
                for others in (rules[:-1], rules[1:], rules + rules[-1:], rules + rules, (), list(rules)):
                    stands = machine[1][:stand] + ((frame, others),) + machine[1][stand + 1:]
                    self.assertIs(is_machine((machine[0], stands)), False)

    def test_rules_broken_one_by_one(self):
        place = ((0,), ((0, 0),))
        for row in (
            (3, (), ("x",)), (-1, (), ("x",)), (True, (), ("x",)), (False, (), ("x",)), (None, (), ("x",)), ("0", (), ("x",)),
            (0, (place,), ("x",)), (2, (), ("x",)), (2, (place, ((1,), ())), ("x",)), (1, (place,), ("x",)),
            (2, (((0,), ()),), ("x",)), (2, (((0,), ((0, 0), (0, 0))),), ("x",)), (2, (((1,), ((0, 0),)),), ("x",)),
            (1, (place, ((0,), ())), ("x",)), (2, (((0, 0), ((0, 0),)),), ("x",)), (2, (((0,), ((0,),)),), ("x",)),
            (2, (((0,), ((0, -1),)),), ("x",)), (2, (((-1,), ((-1, -1),)),), ("x",)), (2, (((0,), ((0, 1),)),), ("x",)),
            (2, (((2,), ()),), ("x",)), (2, (((0,), ((False, 0),)),), ("x",)), (2, (((False,), ((0, 0),)),), ("x",)),
            (2, ([(0,), ((0, 0),)],), ("x",)), (2, [place], ("x",)), (2, (((0,), [(0, 0)]),), ("x",)),
            (2, (([0], ((0, 0),)),), ("x",)), (2, (((0,), ([0, 0],)),), ("x",)), (2, (place + ((),),), ("x",)),
            (0, (), ()), (0, (), ("join",)), (0, (), ("X",)), (0, (), ("x", (0,), (0,), (0,))), (0, (), ("x", (0, -1))),
            (0, (), ("x", (-1,))), (0, (), ("x", (2,))), (0, (), ("x", (0, 1))), (0, (), ("x", ())), (0, (), ("x", [0])),
            (0, (), ("x", (False,))), (0, (), ("x", 0)), (0, (), ["x"]), (0, (), "x"), (0, (), (("x",),)), (0, ()),
            (0, (), ("x",), ()), [0, (), ("x",)], None, (), "", Odd(), (0, (), ("x", Odd())), (0, (Odd(),), ("x",)),
            (Odd(), (), ("x",)), (0, Odd(), ("x",)), (0, (), Odd()), (0, None, ("x",)), (0, (), None),
        ):
            self.assertIs(is_machine(with_rule(BIG, 1, 2, row)), False, repr(row)[:80])
        for row in ((0, (), ("x",)), (2, (place,), ("x", (0, 0), (0, 0))), (1, (place, ((1,), ())), ("abcdefgh", (1,)))):
            self.assertIs(is_machine(with_rule(BIG, 1, 2, row)), True)
        for mark in NO_NAMES:
            self.assertIs(is_machine(with_rule(BIG, 1, 2, (0, (), (mark,)))), False)

    def test_things_twice(self):
        self.assertIs(is_machine(plain_machine([(), (2,), (0, 0)])), True)
        machine = plain_machine([(), (2,), (2, 1), (0, 0)])
        good = (1, (((0,), ((0, 0), (0, 1))),), ("x",))
        self.assertIs(is_machine(with_rule(machine, 1, 2, good)), True)
        self.assertIs(is_machine(with_rule(machine, 1, 2, (1, (((0,), ((0, 0), (0, 0))),), ("x",)))), False)
        self.assertIs(is_machine(with_rule(machine, 2, 2, (3, (((0,), ()), ((1,), ())), ("x",)))), True)
        self.assertIs(is_machine(with_rule(machine, 2, 2, (3, (((0,), ()), ((0,), ())), ("x",)))), False)

    def test_a_join_of_both_houses(self):
        machine = plain_machine([(), (1, 1), (2,), (0,)])
        at = slow_lines(("a",), (1, 1)).index(("join", (0, 1)))
        for fill, due in (
            ((((0,), ((0, 0), (1, 0))),), True), ((((0,), ((1, 0), (0, 0))),), True), ((((1,), ((0, 0), (1, 0))),), False),
            ((((1,), ((1, 0), (1, 0))),), False), ((((-1,), ((0, 0), (1, 0))),), False),
        ):
            self.assertIs(is_machine(with_rule(machine, 1, at, (2, fill, ("x",)))), due)
        self.assertIs(is_machine(with_rule(machine, 1, at, (0, (), ("x", (1, 0))))), True)
        self.assertIs(is_machine(with_rule(machine, 1, at, (0, (), ("x", (1,))))), False)
        self.assertIs(is_machine(with_rule(machine, 1, at, (3, (((1,), ()),), ("x",)))), False)
        self.assertIs(is_machine(with_rule(machine, 1, at, (3, (((0,), ()),), ("x",)))), True)

    def test_a_thing_beneath_another_house(self):
        machine = plain_machine([(), (1, 1), (1,)])
        at = slow_lines(("a",), (1, 1)).index(("a", (1, -1)))
        for fill, due in (
            ((((1,), ((1, -1),)),), True), ((((0,), ((1, -1),)),), False), ((((0,), ((1, 0),)),), False),
            ((((1,), ((0, 0),)),), False), ((((0,), ((0, 0),)),), True),
        ):
            self.assertIs(is_machine(with_rule(machine, 1, at, (2, fill, ("x",)))), due)

    def test_spoilt_in_each_part(self):
        chance = random.Random(2)
        machines = [SMALL, BIG, some_machine(chance, ("a",), ((), (0, 2)))]
        for machine in machines:
            seen = set()
            for thing in spoilt(machine):
                due = slow_is_machine(thing)
                seen.add(due)
                self.assertIs(is_machine(thing), due)
            self.assertIn(False, seen)

    def test_things_of_any_kind(self):
        for thing in ODD_THINGS + (deep(BIG, 3), [BIG], (BIG,), list(BIG), BIG[::-1]):
            self.assertIs(is_machine(thing), False)
            self.assertIs(is_machine((("a",), thing)), False)
            self.assertIs(is_machine((("a",), (thing,))), False)
            self.assertIs(is_machine((("a",), SMALL[1] + (thing,))), False)
            self.assertIs(is_machine((("a",), (((), thing),))), False)
            self.assertIs(is_machine((thing, thing)), False)
            if repr(thing) != "('a',)":
                self.assertIs(is_machine((thing, BIG[1])), False)

    def test_nothing_handed_in_is_changed(self):
        thing = [["a"], [[(), [[0, [], ["x"]]]]]]
        is_machine(thing)
        is_machine(tuple(thing))
        self.assertEqual(thing, [["a"], [[(), [[0, [], ["x"]]]]]])


class Lines(unittest.TestCase):
    def test_lines_in_order(self):
        self.assertEqual(lines_of(("a",), ()), (("a", (-1, -1)), ("join", (-1, -1))))
        self.assertEqual(
            lines_of(words=("k", "zz"), frame=(1,)),
            (
                ("k", (-1, -1)), ("k", (0, -1)), ("k", (0, 0)), ("zz", (-1, -1)), ("zz", (0, -1)), ("zz", (0, 0)),
                ("join", (-1, -1)), ("join", (-1, 0)),
            ),
        )

    def test_lines_of_all_frames(self):
        for frame in FRAMES:
            for words in (("a",), ("k", "zz"), ("a", "b", "zz")):
                self.assertEqual(lines_of(words, frame), tuple(slow_lines(words, frame)))

    def test_rules_in_order(self):
        chance = random.Random(8)
        for _ in range(10):
            machine = some_machine(chance, ("a", "zz"), some_frames(chance))
            for stand, (frame, rules) in enumerate(machine[1]):
                for (word, case), row in zip(slow_lines(("a", "zz"), frame), rules, strict=True):
                    self.assertEqual(rule(machine, stand, word, case), row)

    def test_rules_of_words_and_joins(self):
        self.assertEqual(rule(BIG, 0, "join", (-1, -1)), (0, (), ("y", (-1,))))
        self.assertEqual(rule(machine=BIG, stand=1, word="join", case=(0, 1)), (2, (((0,), ((0, 0),)),), ("z", (0,), (0, 0))))
        self.assertEqual(rule(BIG, 1, "a", (0, -1)), (2, (((0,), ((0, -1),)),), ("x", (0, -1), (0, 0))))


def going(goals):
    """A machine of stands without pockets, with these goals of a and of join for each."""
    return (("a",), tuple(((), ((one, (), ("x",)), (two, (), ("x",)))) for one, two in goals))


class Reached(unittest.TestCase):
    def test_stands_that_no_rule_leads_to(self):
        self.assertEqual(reached(SMALL), (0,))
        self.assertEqual(reached(machine=going([(0, 0), (1, 1)])), (0,))
        self.assertEqual(reached(going([(0, 0), (0, 0), (1, 0)])), (0,))
        self.assertEqual(reached(going([(2, 0), (1, 1), (0, 2)])), (0, 2))
        self.assertEqual(reached(BIG), (0, 1, 2))

    def test_rings(self):
        self.assertEqual(reached(going([(0, 0), (2, 2), (1, 1)])), (0,))
        self.assertEqual(reached(going([(3, 3), (2, 2), (1, 1), (4, 4), (0, 0)])), (0, 3, 4))
        self.assertEqual(reached(going([(5, 5), (0, 0), (1, 1), (2, 2), (3, 3), (4, 4)])), (0, 1, 2, 3, 4, 5))

    def test_a_join_alone_leads_there(self):
        self.assertEqual(reached(going([(0, 1), (1, 1), (2, 2)])), (0, 1))

    def test_against_talkers(self):
        chance = random.Random(7)
        for _ in range(15):
            frames = ((),) + tuple(chance.choice(FRAMES[:5]) for _ in range(3))
            machine = some_machine(chance, ("a",), frames)
            seen = {0}
            for _ in range(60):
                talker = Talker(machine)
                for letter in some_history(chance, 12, most=4, words=("a",)):
                    talker.read(letter)
                    seen.add(talker.stand())
            self.assertEqual(reached(machine), tuple(sorted(seen)))


if __name__ == "__main__":
    unittest.main()
