"""The interface, and what point 2 says of all of it: names, places, kinds of values, nothing changed."""

import ast
import importlib
import inspect
import pathlib
import random
import unittest

from makers import copied, keeping_machine, some_copies, some_history
from strangeseats.least import least

INTERFACE = {
    "worlds.World": "joins=()",
    "worlds.World.called": "house", "worlds.World.join": "house, other", "worlds.World.is_one": "house, other",
    "worlds.World.numbers": "house", "worlds.World.joins": "", "worlds.World.back": "", "worlds.World.twin": "",
    "letters.is_letter": "words, thing, *, joins=()", "letters.is_history": "words, thing", "letters.names_in": "history",
    "letters.houses_in": "history", "letters.plain": "history", "letters.nexts": "words, history",
    "frames.cases": "frame", "frames.join_cases": "frame", "frames.things": "frame, case, *, join=False",
    "frames.beneath": "frame, case, thing, *, join=False",
    "machines.lines_of": "words, frame", "machines.is_machine": "thing", "machines.rule": "machine, stand, word, case",
    "machines.reached": "machine",
    "talkers.Talker": "machine, *, stand=0, filling=(), joins=()", "talkers.Talker.read": "letter", "talkers.Talker.stand": "",
    "talkers.Talker.held": "", "talkers.Talker.letters": "", "talkers.Talker.said": "", "talkers.Talker.world": "",
    "talkers.Talker.back": "", "talkers.Talker.twin": "",
    "talkers.answers": "machine, letters, *, stand=0, filling=(), joins=()",
    "matches.is_match": "frame, other, thing", "matches.matches": "frame, other", "matches.turned_match": "match",
    "matches.joined_match": "match, onward", "matches.fillings": "frame, other, match",
    "meetings.meetings": "frame, other, match", "meetings.join_meetings": "frame, other, match",
    "meetings.gone_on": "one, other, by, word, meeting",
    "alike.alike_from": "one, other, by", "alike.shows_alike": "one, other, by, thing",
    "alike.shows_parted": "one, other, by, thing", "alike.alike": "one, other",
    "vain.in_vain": "machine, stand", "vain.vain_paper": "machine, stand, thing", "vain.core": "machine, stand",
    "kin.kin": "one, stand, other, goal", "kin.unkin_paper": "one, stand, other, goal",
    "kin.shows_unkin": "one, stand, other, goal, thing", "kin.turnings": "machine, stand",
    "least.least": "machine", "least.is_least": "machine", "least.onto": "machine, small",
    "least.shows_onto": "machine, small, thing",
    "musts.must_hold": "machine, history", "musts.exchanged": "machine, history, thing",
    "musts.must_paper": "machine, history, thing", "musts.shows_must": "machine, history, thing, paper",
    "pairs.Beside": "one, other", "pairs.Beside.read": "letter", "pairs.Beside.held": "", "pairs.Beside.back": "",
    "pairs.Beside.twin": "", "pairs.Chain": "one, other", "pairs.Chain.read": "letter", "pairs.Chain.held": "",
    "pairs.Chain.back": "", "pairs.Chain.twin": "",
    "hall.Hall": "machine", "hall.Hall.begin": "talk", "hall.Hall.tell": "talk, word, house, seat",
    "hall.Hall.join": "house, other", "hall.Hall.end": "talk", "hall.Hall.talks": "", "hall.Hall.held": "talk",
    "hall.Hall.all_held": "", "hall.Hall.back": "", "hall.Hall.__len__": "",
    "texts.show_machine": "machine", "texts.show_history": "history", "texts.read_machine": "text",
    "texts.read_history": "words, text",
    "desk.Desk": "", "desk.Desk.say": "line",
}
PACKAGE = pathlib.Path(__file__).resolve().parent.parent / "strangeseats"


def found(path):
    """What stands at a path, and whether its class has it in its own body."""
    module, *names = path.split(".")
    thing = importlib.import_module("strangeseats." + module)
    own = True
    for name in names:
        own = name in vars(thing)
        thing = getattr(thing, name)
    return thing, own


class Interface(unittest.TestCase):
    def test_names_and_arguments(self):
        for path, arguments in INTERFACE.items():
            thing, own = found(path)
            self.assertTrue(own, path)
            told = str(inspect.signature(thing))[1:-1]
            if path.count(".") == 2:
                told = told.removeprefix("self").removeprefix(", ")
            self.assertEqual(told, arguments, path)

    def test_all_modules_are_there(self):
        files = {path.stem for path in PACKAGE.glob("*.py")}
        self.assertLessEqual({path.split(".")[0] for path in INTERFACE} | {"errors"}, files)

    def test_nothing_hangs_on_a_clock_chance_or_files(self):
        for path in PACKAGE.glob("*.py"):
            for node in ast.walk(ast.parse(path.read_text())):
                if isinstance(node, ast.ImportFrom):
                    self.assertTrue(node.module.startswith("strangeseats."), path.name)
                self.assertNotIsInstance(node, ast.Import, path.name)


def all_plain(thing):
    """Whether this is tuples, whole numbers, texts, truths and None alone."""
    if type(thing) is tuple:
        return all(all_plain(part) for part in thing)
    return thing is None or type(thing) in (int, str, bool)


class Told(unittest.TestCase):
    def test_all_that_is_told_is_plain(self):
        chance = random.Random(121)
        for _ in range(15):
            machine = keeping_machine(chance, ("a", "k"), ((), (1,), (2, 1)), ("a", "x"))
            other = copied(chance, machine, some_copies(chance, machine, 2))
            history = some_history(chance, 10, words=("a", "k"))
            before = repr((machine, other, history))
            for told in self.told_of(machine, other, history):
                self.assertTrue(all_plain(told), told)
            self.assertEqual(repr((machine, other, history)), before)

    def told_of(self, machine, other, history):
        small = least(machine)
        talker = found("talkers.Talker")[0](machine)
        for letter in history:
            yield talker.read(letter)
        yield from (talker.stand(), talker.held(), talker.letters(), talker.said(), talker.world().joins(), talker.back())
        yield found("talkers.answers")[0](machine, history)
        for stand in range(3):
            frame = machine[1][stand][0]
            for path in ("frames.cases", "frames.join_cases"):
                yield found(path)[0](frame)
            yield found("machines.lines_of")[0](("a", "k"), frame)
            yield found("matches.matches")[0](frame, frame)
            yield found("matches.fillings")[0](frame, frame, ())
            yield found("meetings.meetings")[0](frame, frame, ())
            yield found("meetings.join_meetings")[0](frame, frame, ())
            yield found("meetings.gone_on")[0](machine, other, (0, 0, ()), "join", ((-1, -1), (-1, -1)))
            for path in ("vain.in_vain", "vain.core", "kin.turnings"):
                yield found(path)[0](machine, stand)
            yield found("kin.kin")[0](machine, stand, other, stand)
            yield found("kin.unkin_paper")[0](machine, stand, other, stand)
        for path in ("machines.reached", "machines.is_machine", "least.least", "least.is_least", "texts.show_machine"):
            yield found(path)[0](machine)
        yield found("alike.alike")[0](machine, other)
        yield found("least.onto")[0](other, small)
        must = found("musts.must_hold")[0](machine, history)
        yield must
        for thing in must:
            yield found("musts.exchanged")[0](machine, history, thing)
            yield found("musts.must_paper")[0](machine, history, thing)
        yield from self.told_by_objects(machine, other, history)

    def told_by_objects(self, machine, other, history):
        for path in ("pairs.Beside", "pairs.Chain"):
            pair = found(path)[0](machine, other)
            for letter in history:
                yield pair.read(letter)
            yield from (pair.held(), pair.back())
        hall = found("hall.Hall")[0](machine)
        yield hall.begin("t")
        for word, house, seat in history:
            yield hall.join(house, seat) if word == "join" else hall.tell("t", word, house, seat)
        yield from (hall.talks(), hall.held("t"), hall.all_held(), len(hall), hall.back(), hall.end("t"))


if __name__ == "__main__":
    unittest.main()
