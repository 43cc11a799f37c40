"""What must be held: what every machine that answers so holds behind a history."""

from strangeseats.alike import Scene, parting_talk
from strangeseats.kinds import is_exactly, is_row
from strangeseats.letters import houses_in, joins_in, names_in
from strangeseats.matches import match_between
from strangeseats.meetings import Walk
from strangeseats.talkers import Talker, parts_at_last, what_is_held
from strangeseats.vain import core, is_vain
from strangeseats.worlds import World


def talker_behind(machine, history):
    """A Talker that has read this history."""
    talker = Talker(machine)
    for letter in history:
        talker.read(letter)
    return talker


def things_held_of(filling, pockets):
    """The rising tuple of what these pockets, things of the frame, hold."""
    held = what_is_held(filling)
    return tuple(sorted([held[pocket] for pocket in pockets]))


def must_hold(machine, history):
    """The rising tuple of the things, (house,) and names, that the core holds behind this history."""
    talker = talker_behind(machine, history)
    return things_held_of(talker.held(), core(machine, talker.stand()))


def pocket_of(filling, thing):
    """The pocket that holds this house or name; None where none does."""
    held = what_is_held(filling)
    for pocket in held:
        if held[pocket] == thing:
            return pocket
    return None


def free_seat(history, house):
    """The least seat of that number that no name read has."""
    names = names_in(history)
    seat = 0
    while (house, seat) in names:
        seat += 1
    return seat


def with_new_house(filling, house, new):
    """The filling with another house in the place of that one, and new names beneath it."""
    rows = []
    for held, names in filling:
        if held == house:
            rows.append((new, tuple((new, seat) for seat in range(len(names)))))
        else:
            rows.append((held, names))
    return tuple(rows)


def with_new_name(filling, name, new):
    """The filling with another name in the place of that one."""
    return tuple((house, tuple(new if below == name else below for below in names)) for house, names in filling)


def exchanged(machine, history, thing):
    """What a Talker holds behind this history, with another thing in the place of this house or name."""
    filling = talker_behind(machine, history).held()
    if len(thing) == 1:
        return with_new_house(filling, thing[0], 1 + max(houses_in(history)))
    return with_new_name(filling, thing, (thing[0], free_seat(history, thing[0])))


def must_paper(machine, history, thing):
    """(the exchanged filling, a talk that parts it from what is held); None where the thing needn't be held."""
    talker = talker_behind(machine, history)
    stand = talker.stand()
    pocket = pocket_of(talker.held(), thing)
    walk = Walk(machine, machine)
    if pocket is None or is_vain(walk, stand, pocket):
        return None
    pair = (talker.held(), exchanged(machine, history, thing))
    fresh = 1 + max(list(houses_in(history)) + [house for house, names in pair[1]])
    scene = Scene(pair, World(joins_in(history)), fresh)
    return (pair[1], parting_talk(walk, (stand, stand, match_between(pair[0], pair[1])), scene))


def shows_must(machine, history, thing, paper):
    """Whether anything is the exchanged filling with a talk that parts it from what is held."""
    talker = talker_behind(machine, history)
    if pocket_of(talker.held(), thing) is None or not is_row(paper, 2):
        return False
    filling = exchanged(machine, history, thing)
    joins = joins_in(history)
    holding = Talker(machine, stand=talker.stand(), filling=talker.held(), joins=joins)
    other = Talker(machine, stand=talker.stand(), filling=filling, joins=joins)
    return is_exactly(paper[0], filling) and parts_at_last(holding, other, paper[1])
