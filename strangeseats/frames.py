"""Frames: the pockets of a stand, what a letter can meet there, and what there is then."""

from strangeseats.kinds import is_below

STRANGE = (-1, -1)
MOST_POCKETS = 2
MOST_SEATS = 2


def is_frame(thing):
    """Whether anything is a frame."""
    if not isinstance(thing, tuple) or len(thing) > MOST_POCKETS:
        return False
    return all(is_below(many, MOST_SEATS + 1) for many in thing)


def held_things(frame):
    """The rising list of the things of a frame."""
    rows = []
    for at, many in enumerate(frame):
        rows.append((at,))
        rows.extend([(at, seat) for seat in range(many)])
    return rows


def cases(frame):
    """The rising tuple of the cases of a word."""
    rows = [STRANGE]
    for at, many in enumerate(frame):
        rows.extend([(at, seat) for seat in range(-1, many)])
    return tuple(rows)


def join_cases(frame):
    """The rising tuple of the cases of a join."""
    pockets = len(frame)
    rows = [STRANGE] + [(-1, at) for at in range(pockets)]
    rows.extend([(at, later) for at in range(pockets) for later in range(at + 1, pockets)])
    return tuple(rows)


def is_join_of_both(case, join):
    """Whether this is the case of a join of two houses that are both held."""
    return join and case[0] >= 0


def things(frame, case, *, join=False):
    """The rising tuple of the things that there are at a case."""
    rows = held_things(frame)
    if case == STRANGE:
        rows.append((-1,))
    if not join and case[1] == -1:
        rows.append(case)
    if is_join_of_both(case, join):
        rows.remove((case[1],))
    return tuple(sorted(rows))


def beneath(frame, case, thing, *, join=False):
    """The house thing that a thing with two parts is beneath at a case."""
    if is_join_of_both(case, join) and thing[0] == case[1]:
        return (case[0],)
    return (thing[0],)
