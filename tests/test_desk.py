"""Point 26: the desk, each of its lines against the function that it speaks of."""

import random
import unittest

from makers import ODD_THINGS, copied, holder, keeping_machine, some_copies, some_frames, some_history
from strangeseats.alike import alike
from strangeseats.desk import Desk
from strangeseats.errors import (
    Missing, NoLetter, NoLine, NoName, NoStand, NoText, Nothing, Refused, Taken, Unlike,
)
from strangeseats.kin import turnings
from strangeseats.least import least
from strangeseats.musts import must_hold
from strangeseats.talkers import Talker, answers
from strangeseats.texts import read_machine, show_machine
from strangeseats.vain import in_vain

KEEP = (((0,), ((0, 0), (0, 1))),)
MACHINE = (
    ("a",),
    (
        ((), ((1, (((-1,), ((-1, -1),)),), ("new", (-1, -1), (-1,))), (0, (), ("two", (-1,))))),
        (
            (1,),
            (
                (1, (((0,), ((0, 0),)),), ("far",)),
                (2, (((0,), ((0, 0), (0, -1))),), ("near", (0, -1))),
                (1, (((0,), ((0, 0),)),), ("again", (0, 0))),
                (1, (((0,), ((0, 0),)),), ("others", (-1,))),
                (1, (((0,), ((0, 0),)),), ("grown", (0,))),
            ),
        ),
        (
            (2,),
            (
                (2, KEEP, ("far",)), (2, KEEP, ("near", (0, -1))), (2, KEEP, ("again", (0, 0))), (2, KEEP, ("near", (0, 1))),
                (2, KEEP, ("others", (-1,))), (2, KEEP, ("grown", (0,))),
            ),
        ),
    ),
)
OTHER = (("a", "k"), (((), ((0, (), ("x",)),) * 3),))


def written(things):
    return " ".join(".".join(str(part) for part in thing) for thing in things) or "-"


def line_of(history):
    rows = [f"join {house} {other}" if word == "join" else f"{word} {house}.{other}" for word, house, other in history]
    return ", ".join(rows) or "-"


def said(rows):
    return ", ".join(" ".join([row[0]] + [written((thing,)) for thing in row[1:]]) for row in rows) or "-"


def desk_with(**machines):
    desk = Desk()
    for name, machine in machines.items():
        desk.say(f"machine {name}\n{show_machine(machine)}")
    return desk


def state(desk):
    """All that a desk keeps by some names, as its lines tell it."""
    rows = []
    for name in ("m", "o", "p", "new"):
        for line in (f"answer {name} a 0.0, a 0.1, a 1.0, join 0 1", f"held {name}", f"must {name} -"):
            try:
                rows.append(desk.say(line))
            except (Refused, Missing) as error:
                rows.append(type(error).__name__)
    return rows


class Lines(unittest.TestCase):
    def setUp(self):
        self.desk = desk_with(m=MACHINE)

    def say(self, line, due):
        told = self.desk.say(line)
        self.assertIs(type(told), str)
        self.assertEqual(told, due)

    def test_machine_and_drop(self):
        self.assertEqual(self.desk.say(line="machine n\n" + show_machine(OTHER)), "ok")
        self.say("answer n k 0.0", "x")
        self.say("machine n\n" + show_machine(MACHINE), "ok")
        self.say("answer n a 3.0", "new 3.0 3")
        self.say("drop n", "ok")
        self.assertRaises(NoName, self.desk.say, "answer n a 3.0")
        self.assertRaises(NoName, self.desk.say, "drop n")
        self.say("drop m", "ok")

    def test_answer(self):
        self.say("answer m -", "-")
        self.say("answer m a 7.3", "new 7.3 7")
        self.say("answer m a 7.3, join 2 7, a 7.3, a 9.0", "new 7.3 7, grown 2, again 7.3, far")
        chance = random.Random(111)
        for _ in range(30):
            history = some_history(chance, chance.randrange(12), words=("a",))
            self.say("answer m " + line_of(history), said(answers(MACHINE, history)))

    def test_alike(self):
        self.desk.say("machine o\n" + show_machine(MACHINE).replace("again n0.0", "again", 1))
        self.say("alike m m", "alike")
        self.say("alike m o", "parted a 0.0, a 0.0")
        chance = random.Random(112)
        for _ in range(20):
            one = keeping_machine(chance, ("k",), some_frames(chance), ("x",))
            others = copied(chance, one, some_copies(chance, one, 1)), keeping_machine(chance, ("k",), some_frames(chance), ("x",))
            for other in others:
                verdict, found = alike(one, other)
                desk = desk_with(one=one, other=other)
                due = "alike" if verdict == "alike" else "parted " + line_of(found)
                self.assertEqual(desk.say("alike one other"), due)

    def test_vain_and_turnings(self):
        self.say("vain m 0", "-")
        self.say("vain m 1", "-")
        self.say("vain m 2", "n0.1")
        self.say("turnings m 2", "1")
        machine = holder((2, 2), {("a", (at, seat)): ("near",) for at in (0, 1) for seat in (-1, 0, 1)})
        self.desk.say("machine o\n" + show_machine(machine))
        self.say("vain o 1", "n0.0 n0.1 n1.0 n1.1")
        self.say("turnings o 1", str(len(turnings(machine, 1))))
        machine = holder((2, 1), {})
        self.desk.say("machine o\n" + show_machine(machine))
        self.say("vain o 1", "n0.0 n0.1 n1.0")
        self.assertEqual(in_vain(machine, 1), ((0, 0), (0, 1), (1, 0)))
        self.desk.say("machine o\n" + show_machine(holder((2,), {})))
        self.say("vain o 1", "h0 n0.0 n0.1")

    def test_least(self):
        self.say("least m s", "2")
        self.assertEqual(len(least(MACHINE)[1]), 2)
        self.say("alike m s", "alike")
        self.say("vain s 1", "-")
        self.say("vain m 2", "n0.1")
        self.say("least m m", "2")
        self.assertRaises(NoStand, self.desk.say, "vain m 2")

    def test_must(self):
        self.say("must m -", "-")
        self.say("must m a 7.3", "7 7.3")
        self.say("must m a 7.3, a 7.1, join 2 7", "2 7.3")
        chance = random.Random(113)
        for _ in range(30):
            history = some_history(chance, chance.randrange(12), words=("a",))
            self.say("must m " + line_of(history), written(must_hold(MACHINE, history)))

    def test_a_talk(self):
        self.say("begin t m", "ok")
        self.say("held t", "-")
        self.say("read t a 7.3", "new 7.3 7")
        self.say("read t a 7.1", "near 7.1")
        self.say("held t", "7 7.1 7.3")
        self.say("read t join 2 7", "grown 2")
        self.say("held t", "2 7.1 7.3")
        self.say("back t", "ok")
        self.say("back t", "ok")
        self.say("held t", "7 7.3")
        self.say("read t a 9.9", "far")
        self.say("end t", "ok")
        self.assertRaises(NoName, self.desk.say, "held t")
        self.say("begin t m", "ok")
        self.say("held t", "-")

    def test_talks_against_talkers(self):
        chance = random.Random(114)
        for _ in range(20):
            machine = keeping_machine(chance, ("a", "k"), some_frames(chance, 4))
            desk, talker = desk_with(m=machine), Talker(machine)
            desk.say("begin t m")
            for letter in some_history(chance, 15, words=("a", "k")):
                self.assertEqual(desk.say("read t " + line_of((letter,))), said((talker.read(letter),)))
                held = [(house,) for house, _ in talker.held()] + [name for _, names in talker.held() for name in names]
                self.assertEqual(desk.say("held t"), written(sorted(held)))

    def test_a_talk_goes_on_with_its_machine_as_it_was(self):
        self.desk.say("begin t m")
        self.desk.say("machine m\n" + show_machine(OTHER))
        self.say("read t a 0.0", "new 0.0 0")
        self.assertRaises(NoLetter, self.desk.say, "read t k 0.0")
        self.desk.say("drop m")
        self.say("read t a 0.0", "again 0.0")
        self.say("back t", "ok")
        self.say("read t a 0.1", "near 0.1")

    def test_machines_and_talks_are_kept_apart(self):
        self.say("begin m m", "ok")
        self.say("read m a 0.0", "new 0.0 0")
        self.say("drop m", "ok")
        self.say("held m", "0 0.0")
        self.assertRaises(NoName, self.desk.say, "answer m -")
        self.say("end m", "ok")

    def test_desks_have_nothing_in_common(self):
        self.assertRaises(NoName, Desk().say, "answer m -")


NO_LINES = (
    "", " ", "\n", "drop", "drop ", "drop m ", " drop m", "drop  m", "drop m m", "drop M", "drop join", "drop abcdefghi", "Drop m",
    "machine m", "machine", "machine \n", "machine\nwords a", "machine M\nwords a", "machine  m\nwords a", "machine m \nwords a",
    "machine m m\nwords a", "machine join\nwords a", "drop m\n", "held t\n", "answer m -\n", "answer", "answer m", "answer m ", "answer -",
    "answer m - ", "answer m  -", "answer m a", "answer m a 0", "answer m a 0.0,", "answer m a 0.0, ", "answer m a 0.0,a 0.0", "answer m a 0.0 a 0.0",
    "answer m a 0.0,  a 0.0", "answer m a 00.0", "answer m a 1234567890.0", "answer m join 0.1", "answer m join 0", "answer m join 0 1 2",
    "answer m A 0.0", "answer m abcdefghi 0.0", "answer m a 0.0, -", "answer m -, a 0.0", "answer m a -1.0", "answer m a 0.0.0", "alike m",
    "alike m ", "alike m m m", "alike m M", "alike", "vain m", "vain m ", "vain m x", "vain m 00", "vain m 01", "vain m -1", "vain m 1234567890",
    "vain m 0 0", "turnings m", "turnings m x", "turnings m h0", "least m", "least m join", "least m m m", "must m", "must m x", "must m a",
    "begin t", "begin t m m", "begin join m", "begin t M", "read t", "read t ", "read t -", "read t a", "read t a 0.0, a 0.0", "read t a 0.0 ",
    "held", "held t t", "back", "back t 1", "end", "end t t", "kin m 0 m 0", "words a", "ok", "alike m\tm", "answer m a 0.\u0661",
)


class Refusals(unittest.TestCase):
    def setUp(self):
        self.desk = desk_with(m=MACHINE, o=OTHER)
        self.desk.say("begin p m")
        self.before = state(self.desk)

    def refused(self, line, kind, attribute=None, value=None):
        with self.assertRaises(kind) as caught:
            self.desk.say(line)
        if attribute:
            found = getattr(caught.exception, attribute)
            self.assertTrue(found is value or found == value, (line, found))
        self.assertEqual(state(self.desk), self.before)

    def test_no_line(self):
        for line in NO_LINES:
            self.refused(line, NoLine, "line", line)

    def test_no_line_of_any_kind(self):
        for thing in ODD_THINGS + (b"drop m", ["drop m"], ("drop", "m")):
            self.refused(thing, NoLine, "line", thing)

    def test_no_line_ahead_of_all(self):
        for line in ("drop x x", "answer x A 0.0", "alike x Y", "vain x 00", "least x join", "begin p x x", "read x a 0", "begin p M"):
            self.refused(line, NoLine, "line", line)

    def test_no_text(self):
        text = show_machine(MACHINE)
        self.refused("machine m\n", NoText, "row", 0)
        self.refused("machine new\n" + text.replace("stand\n", "stand 3\n", 1), NoText, "row", 1)
        self.refused("machine new\n" + text + "\n", NoText, "row", len(text.split("\n")))
        self.refused("machine new\n" + text.replace("> 1", "> 5", 1), NoText, "row", len(text.split("\n")))
        self.refused("machine new\n\n" + text, NoText, "row", 0)
        self.assertEqual(read_machine(text), MACHINE)

    def test_no_name(self):
        for line in (
            "drop x", "answer x -", "answer x k 0.0", "alike x m", "alike m x", "vain x 0", "turnings x 9", "least x m", "must x -", "begin p x",
            "begin t x", "read x a 0.0", "read x k 0.0", "held x", "back x", "end x",
        ):
            self.refused(line, NoName, "name", "x")
        self.refused("alike x z", NoName, "name", "x")
        self.refused("held m", NoName, "name", "m")
        self.refused("answer p -", NoName, "name", "p")
        self.refused("alike o x", NoName, "name", "x")

    def test_taken(self):
        self.refused("begin p m", Taken, "talk", "p")
        self.refused("begin p o", Taken, "talk", "p")

    def test_no_stand(self):
        self.refused("vain m 3", NoStand, "number", 3)
        self.refused("vain m 999999999", NoStand, "number", 999999999)
        self.refused("turnings o 1", NoStand, "number", 1)

    def test_no_letter(self):
        for command in ("answer", "must"):
            self.refused(command + " m k 0.0", NoLetter, "letter", ("k", 0, 0))
            self.refused(command + " m a 0.0, join 1 0, k 0.0", NoLetter, "letter", ("join", 1, 0))
            self.refused(command + " m join 0 1, join 1 2", NoLetter, "letter", ("join", 1, 2))
            self.refused(command + " m join 3 3", NoLetter, "letter", ("join", 3, 3))
        self.refused("read p k 0.0", NoLetter, "letter", ("k", 0, 0))
        self.refused("read p join 1 0", NoLetter, "letter", ("join", 1, 0))

    def test_unlike_and_nothing(self):
        self.refused("alike m o", Unlike)
        self.refused("back p", Nothing)


if __name__ == "__main__":
    unittest.main()
