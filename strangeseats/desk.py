"""A desk: machines and talks kept by names, asked for by lines of text."""

from strangeseats.alike import alike
from strangeseats.errors import NoLine, NoName, NoStand, Taken
from strangeseats.kin import turnings
from strangeseats.kinds import is_name
from strangeseats.least import least
from strangeseats.musts import must_hold, talker_behind
from strangeseats.talkers import Talker, what_is_held
from strangeseats.texts import read_letter, read_machine, read_number, show_letter, show_thing
from strangeseats.vain import in_vain

DONE = "ok"


def listed(texts):
    """These texts parted by blanks, or the sign for none."""
    return " ".join(texts) if texts else "-"


def listed_apart(texts):
    """These texts, which may have blanks in them, parted by commas, or the sign for none."""
    return ", ".join(texts) if texts else "-"


def show_told(thing):
    """A name or a house that was told."""
    return ".".join(str(part) for part in thing)


def show_all_told(rows):
    """Names and houses that were told."""
    return listed([show_told(thing) for thing in rows])


def show_saying(saying):
    """What was said of a letter."""
    return " ".join([saying[0]] + [show_told(thing) for thing in saying[1:]])


def show_letters(history):
    """A history in one line."""
    return listed_apart([show_letter(letter) for letter in history])


def read_letters(text):
    """What is written in the form of a history in one line; None of what isn't."""
    if text == "-":
        return ()
    letters = tuple(read_letter(part) for part in text.split(", "))
    return None if None in letters else letters


def read_part(kind, text):
    """What this part of a line is; None where it isn't of that kind."""
    if kind == "number":
        return read_number(text)
    if kind == "letter":
        return read_letter(text)
    if kind == "history":
        return read_letters(text)
    return text if is_name(text) else None


def machine_kept(desk, name):
    """The machine kept by this name, refused with NoName."""
    if name not in desk.machines:
        raise NoName(name)
    return desk.machines[name]


def talker_kept(desk, name):
    """The talk kept by this name, refused with NoName."""
    if name not in desk.talkers:
        raise NoName(name)
    return desk.talkers[name]


def machine_with_stand(desk, name, number):
    """The machine kept by this name, refused with NoName, then with NoStand where it has no such stand."""
    machine = machine_kept(desk, name)
    if number >= len(machine[1]):
        raise NoStand(number)
    return machine


def say_drop(desk, values):
    """A machine is kept no more."""
    machine_kept(desk, values[0])
    del desk.machines[values[0]]
    return DONE


def say_answer(desk, values):
    """What a machine says of a history."""
    talker = talker_behind(machine_kept(desk, values[0]), values[1])
    return listed_apart([show_saying(saying) for saying in talker.said()])


def say_alike(desk, values):
    """Whether two machines are alike, or the talk that parts them."""
    one = machine_kept(desk, values[0])
    verdict, found = alike(one, machine_kept(desk, values[1]))
    return verdict if verdict == "alike" else f"{verdict} {show_letters(found)}"


def say_vain(desk, values):
    """What is in vain at a stand."""
    machine = machine_with_stand(desk, values[0], values[1])
    return listed([show_thing(thing) for thing in in_vain(machine, values[1])])


def say_turnings(desk, values):
    """How many turnings a stand has."""
    return str(len(turnings(machine_with_stand(desk, values[0], values[1]), values[1])))


def say_least(desk, values):
    """Keeps the least machine by another name: how many stands it has."""
    small = least(machine_kept(desk, values[0]))
    desk.machines[values[1]] = small
    return str(len(small[1]))


def say_must(desk, values):
    """What must be held behind a history."""
    return show_all_told(must_hold(machine_kept(desk, values[0]), values[1]))


def say_begin(desk, values):
    """Begins a talk with a machine."""
    machine = machine_kept(desk, values[1])
    if values[0] in desk.talkers:
        raise Taken(values[0])
    desk.talkers[values[0]] = Talker(machine)
    return DONE


def say_read(desk, values):
    """What is said in a talk of a letter."""
    return show_saying(talker_kept(desk, values[0]).read(values[1]))


def say_held(desk, values):
    """All that a talk holds."""
    filling = talker_kept(desk, values[0]).held()
    return show_all_told(sorted(what_is_held(filling).values()))


def say_back(desk, values):
    """Takes a talk's last letter back."""
    talker_kept(desk, values[0]).back()
    return DONE


def say_end(desk, values):
    """A talk is kept no more."""
    talker_kept(desk, values[0])
    del desk.talkers[values[0]]
    return DONE


FORMS = {
    "drop": ("name",),
    "answer": ("name", "history"),
    "alike": ("name", "name"),
    "vain": ("name", "number"),
    "turnings": ("name", "number"),
    "least": ("name", "name"),
    "must": ("name", "history"),
    "begin": ("name", "name"),
    "read": ("name", "letter"),
    "held": ("name",),
    "back": ("name",),
    "end": ("name",),
}
ACTIONS = {
    "drop": say_drop,
    "answer": say_answer,
    "alike": say_alike,
    "vain": say_vain,
    "turnings": say_turnings,
    "least": say_least,
    "must": say_must,
    "begin": say_begin,
    "read": say_read,
    "held": say_held,
    "back": say_back,
    "end": say_end,
}


def read_values(word, rest):
    """What the parts behind a line's first word are; None where they aren't of the kinds due."""
    kinds = FORMS.get(word, ())
    # Only the last part may have blanks in it.
    parts = rest.split(" ", len(kinds) - 1) if kinds else []
    values = [read_part(kind, part) for kind, part in zip(kinds, parts)]
    return None if not values or len(values) != len(kinds) or None in values else values


class Desk:
    """Machines and talks kept by names."""

    def __init__(self):
        self.machines = {}
        self.talkers = {}

    def say(self, line):
        """What is told of a line, refused with NoLine where it is none."""
        if not isinstance(line, str):
            raise NoLine(line)
        head, feed, text = line.partition("\n")
        word, blank, rest = head.partition(" ")
        if feed:
            return self.keep_machine(line, word, rest, text)
        values = read_values(word, rest)
        if values is None:
            raise NoLine(line)
        action = ACTIONS[word]
        return action(self, values)

    def keep_machine(self, line, word, name, text):
        """Keeps the machine of a text by this name."""
        if word != "machine" or not is_name(name):
            raise NoLine(line)
        self.machines[name] = read_machine(text)
        return DONE
