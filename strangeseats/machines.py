"""Machines: stands with frames, and a rule for each case of each word and of a join."""

from strangeseats.frames import beneath, cases, is_frame, join_cases, things
from strangeseats.kinds import is_below, is_name, is_row, is_whole, is_words

MOST_STANDS = 6


def lines_of(words, frame):
    """The tuple of (word, case) for each rule of a stand with this frame, in their order."""
    rows = [(word, case) for word in words for case in cases(frame)]
    return tuple(rows + [("join", case) for case in join_cases(frame)])


def is_thing_of(thing, there):
    """Whether anything is one of these things, which are there."""
    if not isinstance(thing, tuple) or not all(is_whole(part) for part in thing):
        return False
    return thing in there


def are_seats(seats, frame, case, join, house):
    """Whether a tuple of anything is unlike things, each there at the case and beneath that house."""
    there = things(frame, case, join=join)
    if not all(is_thing_of(thing, there) and len(thing) == 2 for thing in seats):
        return False
    if len(set(seats)) != len(seats):
        return False
    return all(beneath(frame, case, thing, join=join) == house for thing in seats)


def is_pocket(pocket, frame, case, join):
    """Whether anything is (thing, things): a house thing there at the case, and things beneath it."""
    if not is_row(pocket, 2):
        return False
    house, seats = pocket
    if not is_thing_of(house, things(frame, case, join=join)) or len(house) != 1:
        return False
    return isinstance(seats, tuple) and are_seats(seats, frame, case, join, house)


def is_fill(fill, frame, case, join):
    """Whether anything fills a frame, whichever one, by what there is at the case."""
    if not isinstance(fill, tuple) or not all(is_pocket(pocket, frame, case, join) for pocket in fill):
        return False
    return len({pocket[0] for pocket in fill}) == len(fill)


def frame_filled(fill):
    """The numbers of seats that a fill has, pocket by pocket."""
    return tuple(len(seats) for house, seats in fill)


def is_saying(saying, there):
    """Whether anything is a mark and none to two things that there are."""
    if not isinstance(saying, tuple) or not 1 <= len(saying) <= 3:
        return False
    return is_name(saying[0]) and all(is_thing_of(thing, there) for thing in saying[1:])


def is_rule(row, frame, line, goal_frames):
    """Whether anything is a rule for this line, (word, case), of a stand with this frame."""
    if not is_row(row, 3):
        return False
    word, case = line
    join = word == "join"
    goal, fill, saying = row
    if not is_below(goal, len(goal_frames)) or not is_fill(fill, frame, case, join):
        return False
    return frame_filled(fill) == goal_frames[goal] and is_saying(saying, things(frame, case, join=join))


def are_rules(rows, words, frame, goal_frames):
    """Whether anything is the rules of a stand with this frame."""
    lines = lines_of(words, frame)
    if not is_row(rows, len(lines)):
        return False
    return all(is_rule(row, frame, line, goal_frames) for row, line in zip(rows, lines))


def is_machine(thing):
    """Whether anything is a machine."""
    if not is_row(thing, 2):
        return False
    words, stands = thing
    if not is_words(words) or not isinstance(stands, tuple) or not 1 <= len(stands) <= MOST_STANDS:
        return False
    if not all(is_row(place, 2) and is_frame(place[0]) for place in stands):
        return False
    frames = [place[0] for place in stands]
    return frames[0] == () and all(are_rules(rows, words, frame, frames) for frame, rows in stands)


def frame_of(machine, stand):
    """The frame of that stand."""
    return machine[1][stand][0]


def rule(machine, stand, word, case):
    """The rule of that stand for that word, join too, and case."""
    frame, rows = machine[1][stand]
    return rows[lines_of(machine[0], frame).index((word, case))]


def reached(machine):
    """The rising tuple of the stands to which histories lead."""
    # Each case can be met at each stand, for houses and seats are without end.
    found = {0: True}
    waiting = [0]
    while waiting:
        frame, rows = machine[1][waiting.pop()]
        for goal, fill, saying in rows:
            if goal not in found:
                found[goal] = True
                waiting.append(goal)
    return tuple(sorted(found))
