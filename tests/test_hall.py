"""Points 24 and 3 (g): many talks in one World."""

import random
import unittest

from makers import ODD_THINGS, Odd, copied, keeping_machine, same, slow_lines, some_copies, some_frames
from strangeseats.errors import Missing, NoLetter, NoTalk, Nothing, OneHouse, Refused, Taken
from strangeseats.hall import Hall
from strangeseats.talkers import Talker
from strangeseats.vain import core
from strangeseats.worlds import World

KEEP = (((0,), ((0, 0), (0, 1))),)
# Keeps the first name, and beside it, in vain, the second one of its house.
MACHINE = (
    ("a",),
    (
        ((), ((1, (((-1,), ((-1, -1),)),), ("new", (-1,))), (0, (), ("two", (-1,))))),
        (
            (1,),
            (
                (1, (((0,), ((0, 0),)),), ("far",)),
                (2, (((0,), ((0, 0), (0, -1))),), ("near", (0, -1))),
                (1, (((0,), ((0, 0),)),), ("again", (0, 0))),
                (1, (((0,), ((0, 0),)),), ("others", (-1,))),
                (1, (((0,), ((0, 0),)),), ("grown", (0,))),
            ),
        ),
        (
            (2,),
            (
                (2, KEEP, ("far",)), (2, KEEP, ("near", (0, -1))), (2, KEEP, ("again", (0, 0))), (2, KEEP, ("near", (0, 1))),
                (2, KEEP, ("others", (-1,))), (2, KEEP, ("grown", (0,))),
            ),
        ),
    ),
)


def must_of(machine, talker):
    rows = []
    for thing in core(machine, talker.stand()):
        house, names = talker.held()[thing[0]]
        rows.append((house,) if len(thing) == 1 else names[thing[1]])
    return tuple(sorted(rows))


def told(hall):
    return len(hall), hall.talks(), [(talk, hall.held(talk)) for talk in hall.talks()], hall.all_held()


class SlowHall:
    """A hall as its words say: a Talker for each talk, all deeds done anew to take one back."""

    def __init__(self, machine):
        self.machine, self.deeds = machine, []

    def state(self):
        world, talkers, said = World(), {}, None
        for kind, *rest in self.deeds:
            if kind == "begin":
                said = None
                talkers[rest[0]] = Talker(self.machine, joins=world.joins())
            elif kind == "end":
                said = None
                del talkers[rest[0]]
            elif kind == "tell":
                said = talkers[rest[0]].read(tuple(rest[1:]))
            else:
                pair = tuple(sorted(world.called(house) for house in rest))
                world.join(*rest)
                said = tuple((talk, talkers[talk].read(("join",) + pair)) for talk in sorted(talkers))
        return world, talkers, said

    def do(self, *deed):
        self.deeds.append(deed)
        return self.state()[2]

    def told(self):
        talkers = self.state()[1]
        rows = [(talk, must_of(self.machine, talkers[talk])) for talk in sorted(talkers)]
        return len(self.deeds), tuple(sorted(talkers)), rows, tuple(sorted({thing for _, must in rows for thing in must}))


class Talks(unittest.TestCase):
    def test_many_talks(self):
        hall = Hall(machine=MACHINE)
        self.assertEqual(told(hall), (0, (), [], ()))
        self.assertIsNone(hall.begin("one"))
        self.assertIsNone(hall.begin(talk="b"))
        self.assertEqual(hall.talks(), ("b", "one"))
        self.assertEqual(hall.tell("one", "a", 5, 1), ("new", (5,)))
        self.assertEqual(hall.tell(talk="b", word="a", house=3, seat=0), ("new", (3,)))
        self.assertEqual(hall.tell("one", "a", 5, 2), ("near", (5, 2)))
        self.assertEqual(hall.held("one"), ((5,), (5, 1)))
        self.assertEqual(hall.held(talk="b"), ((3,), (3, 0)))
        self.assertEqual(hall.all_held(), ((3,), (3, 0), (5,), (5, 1)))
        self.assertEqual(hall.join(5, 3), (("b", ("grown", (3,))), ("one", ("grown", (3,)))))
        self.assertEqual(hall.all_held(), ((3,), (3, 0), (5, 1)))
        self.assertEqual(hall.tell("one", "a", 3, 0), ("near", (3, 0)))
        self.assertIsNone(hall.end("b"))
        self.assertEqual((hall.talks(), hall.all_held(), len(hall)), (("one",), ((3,), (5, 1)), 8))

    def test_talks_begun_behind_joins(self):
        hall = Hall(MACHINE)
        self.assertEqual(hall.join(9, 4), ())
        hall.begin("a")
        self.assertEqual(hall.tell("a", "a", 9, 1), ("new", (4,)))
        self.assertEqual(hall.tell("a", "a", 4, 1), ("near", (4, 1)))
        self.assertEqual(hall.held("a"), ((4,), (9, 1)))
        hall.begin("b")
        self.assertEqual(hall.tell("b", "a", 4, 7), ("new", (4,)))
        self.assertEqual(hall.tell("b", "a", 9, 1), ("near", (9, 1)))

    def test_joins_of_any_two_numbers_of_unlike_houses(self):
        hall = Hall(MACHINE)
        hall.begin("t")
        self.assertEqual(hall.join(house=9, other=4), (("t", ("two", (4,))),))
        self.assertEqual(hall.join(9, 7), (("t", ("two", (4,))),))
        hall.tell("t", "a", 8, 0)
        self.assertEqual(hall.join(7, 8), (("t", ("grown", (4,))),))
        self.assertEqual(hall.held("t"), ((4,), (8, 0)))
        self.assertEqual(hall.join(2, 9), (("t", ("grown", (2,))),))

    def test_against_talkers_of_their_own(self):
        chance = random.Random(91)
        for at in range(40):
            frames = chance.choice((some_frames(chance, 4), ((), (1,), (2, 1), (1, 1)), ((), (0,), (0, 0))))
            machine = keeping_machine(chance, ("a", "k"), frames, ("x", "y"))
            if at % 2:
                machine = copied(chance, machine, some_copies(chance, machine, 6 - len(machine[1])))
            hall, slow = Hall(machine), SlowHall(machine)
            for _ in range(25):
                self.step(chance, hall, slow)
                self.assertEqual(told(hall), slow.told())

    def step(self, chance, hall, slow):
        world, talkers, _ = slow.state()
        kind = chance.choice(("begin", "tell", "tell", "tell", "tell", "join", "end", "back"))
        talk = chance.choice(("a", "b", "zz", "join" + "ed"))
        house, other = chance.randrange(7), chance.randrange(7)
        if kind == "back":
            if slow.deeds:
                slow.deeds.pop()
                self.assertIsNone(hall.back())
            else:
                self.assertRaises(Nothing, hall.back)
        elif kind == "join":
            if world.is_one(house, other):
                self.assertRaises(OneHouse, hall.join, house, other)
            else:
                self.assertTrue(same(hall.join(house, other), slow.do("join", house, other)))
        elif kind == "begin":
            if talk in talkers:
                self.assertRaises(Taken, hall.begin, talk)
            else:
                self.assertEqual(hall.begin(talk), slow.do("begin", talk))
        elif talk not in talkers:
            self.assertRaises(NoTalk, hall.end, talk)
            self.assertRaises(NoTalk, hall.tell, talk, "a", 0, 0)
        elif kind == "end":
            self.assertEqual(hall.end(talk), slow.do("end", talk))
        else:
            word, seat = chance.choice(("a", "k")), chance.randrange(3)
            self.assertTrue(same(hall.tell(talk, word, house, seat), slow.do("tell", talk, word, house, seat)))

    def test_what_is_held_is_told_rising(self):
        keep = (((0,), ((0, 0),)), ((1,), ((1, 0),)))
        last = tuple(
            (2, keep, ("x",) if min(case) < 0 else ("again",) + (case,)) if word == "a" else (0, (), ("y",))
            for word, case in slow_lines(("a",), (1, 1))
        )
        second = ((2, (((0,), ((0, 0),)), ((-1,), ((-1, -1),))), ("x",)),) + ((1, keep[:1], ("x",)),) * 4
        first = ((1, (((-1,), ((-1, -1),)),), ("x",)), (0, (), ("x",)))
        hall = Hall((("a",), (((), first), ((1,), second), ((1, 1), last))))
        for talk, houses in (("s", (9, 4)), ("t", (8, 2))):
            hall.begin(talk)
            for house in houses:
                hall.tell(talk, "a", house, 1)
        self.assertEqual(hall.held("s"), ((4,), (4, 1), (9,), (9, 1)))
        self.assertEqual(hall.held("t"), ((2,), (2, 1), (8,), (8, 1)))
        self.assertEqual(hall.all_held(), ((2,), (2, 1), (4,), (4, 1), (8,), (8, 1), (9,), (9, 1)))

    def test_no_more_is_held_than_must_be(self):
        hall = Hall(MACHINE)
        hall.begin("t")
        hall.tell("t", "a", 5, 1)
        hall.tell("t", "a", 5, 2)
        self.assertEqual(hall.running["t"][1], ((5, ((5, 1),)),))


class Refusals(unittest.TestCase):
    def setUp(self):
        self.hall = Hall(MACHINE)
        self.hall.begin("one")
        self.hall.tell("one", "a", 5, 1)
        self.hall.join(3, 5)
        self.before = told(self.hall)

    def assert_refused(self, kind, attribute, value, deed, *handed):
        with self.assertRaises(kind) as caught:
            deed(*handed)
        found = getattr(caught.exception, attribute)
        self.assertTrue(found is value or same(found, value))
        self.assertEqual(told(self.hall), self.before)

    def test_taken(self):
        self.assert_refused(Taken, "talk", "one", self.hall.begin, "one")

    def test_no_talk(self):
        for talk in ODD_THINGS + ("two", "ONE", ("one",), ["one"]):
            self.assert_refused(NoTalk, "talk", talk, self.hall.end, talk)
            self.assert_refused(NoTalk, "talk", talk, self.hall.held, talk)
            self.assert_refused(NoTalk, "talk", talk, self.hall.tell, talk, "a", 0, 0)

    def test_no_talk_ahead_of_no_letter(self):
        for thing in ("b", None, Odd(), "join"):
            self.assert_refused(NoTalk, "talk", "two", self.hall.tell, "two", thing, 0, 0)
            self.assert_refused(NoTalk, "talk", None, self.hall.tell, None, thing, thing, thing)

    def test_no_letter(self):
        for word, house, seat in (
            ("b", 0, 0), ("join", 0, 1), ("join", 0, 3), ("join", 5, 3), ("a", -1, 0), ("a", 0, -1), ("a", True, 0),
            ("a", 0, False), ("a", "0", 0), ("a", 0, None), ("", 0, 0), ("A", 0, 0), (("a",), 0, 0),
        ):
            with self.assertRaises(NoLetter) as caught:
                self.hall.tell("one", word, house, seat)
            self.assertTrue(same(caught.exception.letter, (word, house, seat)))
            self.assertEqual(told(self.hall), self.before)

    def test_no_letter_of_any_kind(self):
        for thing in ODD_THINGS:
            for row in ((thing, 0, 0), ("a", thing, 0), ("a", 0, thing), (thing, thing, thing)):
                if type(thing) is int and thing >= 0 and row[0] == "a" or type(thing) is str and thing == "a":
                    continue
                with self.assertRaises(NoLetter) as caught:
                    self.hall.tell("one", *row)
                self.assertTrue(all(part is due for part, due in zip(caught.exception.letter, row, strict=True)))
                self.assertEqual(told(self.hall), self.before)

    def test_one_house(self):
        self.assert_refused(OneHouse, "house", 3, self.hall.join, 5, 3)
        self.assert_refused(OneHouse, "house", 3, self.hall.join, 3, 5)
        self.assert_refused(OneHouse, "house", 3, self.hall.join, 5, 5)
        self.assert_refused(OneHouse, "house", 9, self.hall.join, 9, 9)

    def test_families(self):
        self.assertRaises(Refused, self.hall.begin, "one")
        self.assertRaises(Missing, self.hall.end, "two")

    def test_an_ended_talk_is_none(self):
        self.hall.end("one")
        self.assertRaises(NoTalk, self.hall.end, "one")
        self.assertRaises(NoTalk, self.hall.held, "one")
        self.assertRaises(NoTalk, self.hall.tell, "one", "a", 0, 0)
        self.assertIsNone(self.hall.begin("one"))
        self.assertEqual(self.hall.held("one"), ())


class Back(unittest.TestCase):
    def test_each_kind_of_deed(self):
        hall = Hall(MACHINE)
        deeds = (
            lambda: hall.begin("one"), lambda: hall.tell("one", "a", 5, 1), lambda: hall.begin("two"),
            lambda: hall.join(3, 5), lambda: hall.tell("two", "a", 5, 0), lambda: hall.tell("one", "a", 3, 1),
            lambda: hall.end("one"), lambda: hall.join(1, 5), lambda: hall.begin("one"), lambda: hall.end("two"),
        )
        kept = []
        for many, deed in enumerate(deeds):
            self.assertEqual(len(hall), many)
            kept.append(told(hall))
            deed()
        self.assertEqual(len(hall), len(deeds))
        while kept:
            self.assertIsNone(hall.back())
            self.assertEqual(told(hall), kept.pop())
        self.assertRaises(Nothing, hall.back)
        self.assertEqual(told(hall), (0, (), [], ()))

    def test_an_ended_talk_comes_back_as_it_was(self):
        hall = Hall(MACHINE)
        hall.begin("one")
        hall.tell("one", "a", 5, 1)
        hall.join(3, 5)
        hall.end("one")
        hall.join(2, 3)
        hall.back()
        hall.back()
        self.assertEqual(hall.held("one"), ((3,), (5, 1)))
        self.assertEqual(hall.tell("one", "a", 5, 1), ("again", (5, 1)))
        self.assertEqual(hall.tell("one", "a", 2, 1), ("far",))

    def test_a_join_taken_back_in_all_talks(self):
        hall = Hall(MACHINE)
        for talk in ("one", "two"):
            hall.begin(talk)
        hall.tell("one", "a", 5, 1)
        hall.tell("two", "a", 3, 1)
        hall.join(5, 3)
        hall.back()
        self.assertEqual((hall.held("one"), hall.held("two")), (((5,), (5, 1)), ((3,), (3, 1))))
        self.assertEqual(hall.tell("one", "a", 3, 1), ("far",))
        self.assertEqual(hall.join(3, 5), (("one", ("grown", (3,))), ("two", ("grown", (3,)))))

    def test_refused_deeds_cannot_be_taken_back(self):
        hall = Hall(MACHINE)
        for deed in (lambda: hall.end("a"), lambda: hall.join(1, 1), lambda: hall.tell("a", "a", 0, 0)):
            self.assertRaises((Refused, Missing), deed)
        self.assertEqual(len(hall), 0)
        self.assertRaises(Nothing, hall.back)


if __name__ == "__main__":
    unittest.main()
