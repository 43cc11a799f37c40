"""Texts: machines and histories written in rows, and read again."""

from strangeseats.errors import NoText
from strangeseats.frames import is_frame, things
from strangeseats.kinds import is_name, is_words
from strangeseats.letters import is_letter_in
from strangeseats.machines import is_fill, is_machine, is_saying, lines_of
from strangeseats.worlds import World

FIGURES = "0123456789"
MOST_FIGURES = 9


def show_thing(thing):
    """A thing of a frame, or one read, as it is written in a machine's text."""
    sign = "h" if len(thing) == 1 else "n"
    return sign + ".".join(str(part) for part in thing if part >= 0)


def line_words(word, case):
    """A rule's word and case, as the words that its row begins with."""
    if word == "join":
        return [word] + [show_thing((part,)) for part in case]
    return [word, show_thing(case)]


def show_rule(line, row):
    """The row of a rule."""
    word, case = line
    goal, fill, saying = row
    parts = line_words(word, case) + [">", str(goal)]
    for house, seats in fill:
        parts.extend([show_thing(thing) for thing in (house,) + seats])
    parts.extend([":", saying[0]] + [show_thing(thing) for thing in saying[1:]])
    return " ".join(parts)


def show_machine(machine):
    """The text of a machine."""
    words, stands = machine
    rows = [" ".join(("words",) + words)]
    for frame, rules in stands:
        rows.append(" ".join(["stand"] + [str(many) for many in frame]))
        rows.extend([show_rule(line, row) for line, row in zip(lines_of(words, frame), rules)])
    return "\n".join(rows)


def show_letter(letter):
    """The row of a letter."""
    word, house, other = letter
    return f"join {house} {other}" if word == "join" else f"{word} {house}.{other}"


def show_history(history):
    """The text of a history."""
    return "\n".join(show_letter(letter) for letter in history)


def read_number(text):
    """The number written so; None where this is none of one to nine figures, without a 0 ahead."""
    if not 1 <= len(text) <= MOST_FIGURES or not all(sign in FIGURES for sign in text):
        return None
    return None if len(text) > 1 and text[0] == "0" else int(text)


def read_numbers(parts):
    """The tuple of the numbers written so; None where one is none."""
    numbers = tuple(read_number(part) for part in parts)
    return None if None in numbers else numbers


def read_letter(text):
    """What is written in the form of a letter, whichever its words and World; None of what isn't."""
    parts = text.split(" ")
    word = parts[0]
    if word == "join":
        numbers = read_numbers(parts[1:])
    elif is_name(word) and len(parts) == 2:
        numbers = read_numbers(parts[1].split("."))
    else:
        return None
    return None if numbers is None or len(numbers) != 2 else (word,) + numbers


def read_words(row):
    """The words of a machine's first row; None where it isn't as it must be."""
    parts = row.split(" ")
    words = tuple(parts[1:])
    return words if parts[0] == "words" and is_words(words) else None


def read_frame(row):
    """The frame of a stand's row; None where it isn't as it must be."""
    parts = row.split(" ")
    frame = read_numbers(parts[1:])
    return frame if parts[0] == "stand" and is_frame(frame) else None


def read_fill(parts, there):
    """The fill written by these words, there a dict of the things by how they are written; None where one is none."""
    rows = []
    for part in parts:
        thing = there.get(part)
        if thing is None or (len(thing) == 2 and not rows):
            return None
        if len(thing) == 1:
            rows.append((thing, ()))
        else:
            house, seats = rows.pop()
            rows.append((house, seats + (thing,)))
    return tuple(rows)


def read_rule(row, frame, line):
    """The rule for this line of a stand with this frame; None where the row isn't as it must be."""
    word, case = line
    join = word == "join"
    head = line_words(word, case) + [">"]
    parts = row.split(" ")
    rest = parts[len(head):]
    if parts[:len(head)] != head or ":" not in rest:
        return None
    end = rest.index(":")
    there = {show_thing(thing): thing for thing in things(frame, case, join=join)}
    goal = read_number(rest[0])
    fill = read_fill(rest[1:end], there)
    saying = tuple(rest[end + 1:end + 2]) + tuple(there.get(part) for part in rest[end + 2:])
    if goal is None or not is_fill(fill, frame, case, join) or not is_saying(saying, tuple(there.values())):
        return None
    return (goal, fill, saying)


def read_stand(words, rows, first):
    """The stand whose rows begin with that one, refused with NoText."""
    frame = read_frame(rows[first]) if first < len(rows) else None
    if frame is None:
        raise NoText(first)
    rules = []
    for at, line in enumerate(lines_of(words, frame), first + 1):
        found = read_rule(rows[at], frame, line) if at < len(rows) else None
        if found is None:
            raise NoText(at)
        rules.append(found)
    return (frame, tuple(rules))


def read_machine(text):
    """The machine of this text, refused with NoText of the first row that isn't as it must be."""
    rows = text.split("\n") if isinstance(text, str) else [""]
    words = read_words(rows[0])
    if words is None:
        raise NoText(0)
    stands = []
    at = 1
    while at < len(rows) or not stands:
        frame, rules = read_stand(words, rows, at)
        stands.append((frame, rules))
        at += 1 + len(rules)
    machine = (words, tuple(stands))
    if not is_machine(machine):
        raise NoText(len(rows))
    return machine


def read_history(words, text):
    """The history of this text, refused with NoText of the first row that is no letter there."""
    if not isinstance(text, str):
        raise NoText(0)
    rows = text.split("\n") if text else []
    world = World()
    letters = []
    for at, row in enumerate(rows):
        letter = read_letter(row)
        if not is_letter_in(words, letter, world):
            raise NoText(at)
        if letter[0] == "join":
            world.join(letter[1], letter[2])
        letters.append(letter)
    return tuple(letters)
