"""Matches: which pockets of two frames hold the same."""

from strangeseats.kinds import is_below, is_row


def is_pairing(thing, many, others):
    """Whether anything is a rising tuple of pairs of such numbers, each in one at the most."""
    if not isinstance(thing, tuple):
        return False
    if not all(is_row(pair, 2) and is_below(pair[0], many) and is_below(pair[1], others) for pair in thing):
        return False
    firsts = [first for first, second in thing]
    return firsts == sorted(set(firsts)) and len({second for first, second in thing}) == len(thing)


def is_match(frame, other, thing):
    """Whether anything is a match of these two frames."""
    if not isinstance(thing, tuple) or not all(is_row(row, 3) for row in thing):
        return False
    if not is_pairing(tuple(row[:2] for row in thing), len(frame), len(other)):
        return False
    return all(is_pairing(pairs, frame[mine], other[theirs]) for mine, theirs, pairs in thing)


def pairings(many, others):
    """All rising tuples of pairs of such numbers, each in one at the most."""
    rows = [()]
    for first in range(many):
        free = [[second for second in range(others) if second not in [pair[1] for pair in row]] for row in rows]
        rows = rows + [row + ((first, second),) for row, seconds in zip(rows, free) for second in seconds]
    return rows


def matches(frame, other):
    """The rising tuple of all matches of these two frames."""
    rows = []
    for houses in pairings(len(frame), len(other)):
        grown = [()]
        for mine, theirs in houses:
            seats = pairings(frame[mine], other[theirs])
            grown = [row + ((mine, theirs, pairs),) for row in grown for pairs in seats]
        rows.extend(grown)
    return tuple(sorted(rows))


def turned_pairs(pairs):
    """These pairs, each turned about, rising."""
    return tuple(sorted([(second, first) for first, second in pairs]))


def turned_match(match):
    """The match of the other frame and the one."""
    return tuple(sorted([(theirs, mine, turned_pairs(pairs)) for mine, theirs, pairs in match]))


def joined_pairs(pairs, onward):
    """What is paired through both."""
    ends = {middle: end for middle, end in onward}
    return tuple((start, ends[middle]) for start, middle in pairs if middle in ends)


def joined_match(match, onward):
    """Of frames one, two and two, three the match of one and three."""
    ends = {middle: (end, pairs) for middle, end, pairs in onward}
    rows = []
    for start, middle, pairs in match:
        if middle in ends:
            end, more = ends[middle]
            rows.append((start, end, joined_pairs(pairs, more)))
    return tuple(rows)


def new_names(house, first, many):
    """That many names of a house, their seats from first on."""
    return tuple((house, first + seat) for seat in range(many))


def paired_names(house, taken, many, pairs):
    """What the seats of a paired pocket hold: what is paired, or the next seats from taken on."""
    paired = {theirs: mine for mine, theirs in pairs}
    names = []
    for at in range(many):
        if at in paired:
            names.append((house, paired[at]))
        else:
            names.append((house, taken))
            taken += 1
    return tuple(names)


def fillings(frame, other, match):
    """The pair of fillings in which just what is matched holds the same."""
    paired = {theirs: (mine, pairs) for mine, theirs, pairs in match}
    filling = []
    fresh = len(frame)
    for at, many in enumerate(other):
        if at in paired:
            house, pairs = paired[at]
            filling.append((house, paired_names(house, frame[house], many, pairs)))
        else:
            filling.append((fresh, new_names(fresh, 0, many)))
            fresh += 1
    return tuple((at, new_names(at, 0, many)) for at, many in enumerate(frame)), tuple(filling)


def match_between(filling, other):
    """The match of the frames by what these two fillings hold, in one World."""
    rows = []
    for mine, (house, names) in enumerate(filling):
        for theirs, (held, below) in enumerate(other):
            if house == held:
                pairs = tuple((seat, below.index(name)) for seat, name in enumerate(names) if name in below)
                rows.append((mine, theirs, pairs))
    return tuple(rows)
