"""In vain: what a stand holds though every talk is answered the same without it."""

from strangeseats.alike import verdict_of
from strangeseats.frames import held_things
from strangeseats.machines import frame_of
from strangeseats.meetings import Walk


def match_without(frame, thing):
    """The match of a frame with itself, all matched but this thing and what is beneath it."""
    rows = []
    for at, many in enumerate(frame):
        if thing != (at,):
            rows.append((at, at, tuple((seat, seat) for seat in range(many) if thing != (at, seat))))
    return tuple(rows)


def is_vain(walk, stand, thing):
    """Whether a thing is in vain at a stand, walk being of the machine with itself."""
    return walk.is_alike((stand, stand, match_without(frame_of(walk.one, stand), thing)))


def core_in(walk, stand):
    """The rising tuple of the things that are not in vain, walk being of the machine with itself."""
    return tuple(thing for thing in held_things(frame_of(walk.one, stand)) if not is_vain(walk, stand, thing))


def in_vain(machine, stand):
    """The rising tuple of the things that are in vain at that stand."""
    walk = Walk(machine, machine)
    return tuple(thing for thing in held_things(frame_of(machine, stand)) if is_vain(walk, stand, thing))


def vain_paper(machine, stand, thing):
    """alike_from's answer for the machine with itself, all matched but this thing."""
    return verdict_of(Walk(machine, machine), (stand, stand, match_without(frame_of(machine, stand), thing)))


def core(machine, stand):
    """The rising tuple of the things that are not in vain at that stand."""
    return core_in(Walk(machine, machine), stand)
