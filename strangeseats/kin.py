"""Kin: stands that are alike, all of the one's core matched with all of the other's, and their turnings."""

from strangeseats.alike import refuse_unlike_words, shows_parted, verdict_of
from strangeseats.kinds import is_exactly, is_row
from strangeseats.machines import frame_of
from strangeseats.matches import matches, turned_match
from strangeseats.meetings import Walk
from strangeseats.vain import core_in


def things_matched(match):
    """The rising tuple of the things of the one frame that a match pairs."""
    rows = []
    for mine, theirs, pairs in match:
        rows.append((mine,))
        rows.extend([(mine, seat) for seat, other in pairs])
    return tuple(rows)


class Kinship:
    """Two machines of the same words, and which of their stands are kin; what was found out once is kept."""

    def __init__(self, one, other):
        self.across = Walk(one, other)
        self.within_one = self.across if one == other else Walk(one, one)
        self.within_other = self.across if one == other else Walk(other, other)

    def core_matches(self, stand, goal):
        """The rising list of the matches that pair all of the one core with all of the other, and nothing else."""
        mine = core_in(self.within_one, stand)
        theirs = core_in(self.within_other, goal)
        if len(mine) != len(theirs):
            return []
        rows = matches(frame_of(self.across.one, stand), frame_of(self.across.other, goal))
        return [row for row in rows if things_matched(row) == mine and things_matched(turned_match(row)) == theirs]

    def kin_matches(self, stand, goal):
        """The rising list of the matches by which the two stands are kin."""
        rows = self.core_matches(stand, goal)
        return [row for row in rows if self.across.is_alike((stand, goal, row))]


def kin(one, stand, other, goal):
    """The rising tuple of the matches by which two stands are kin, () where they are not."""
    refuse_unlike_words(one, other)
    return tuple(Kinship(one, other).kin_matches(stand, goal))


def unkin_paper(one, stand, other, goal):
    """The rising tuple of (match, talk that parts) for each match of the cores; None where the stands are kin."""
    refuse_unlike_words(one, other)
    ship = Kinship(one, other)
    if ship.kin_matches(stand, goal):
        return None
    rows = ship.core_matches(stand, goal)
    return tuple((row, verdict_of(ship.across, (stand, goal, row))[1]) for row in rows)


def shows_unkin(one, stand, other, goal, thing):
    """Whether anything is the rising tuple of (match, talk that parts), one for each match of the cores."""
    refuse_unlike_words(one, other)
    due = Kinship(one, other).core_matches(stand, goal)
    if not is_row(thing, len(due)):
        return False
    for row, match in zip(thing, due):
        if not is_row(row, 2) or not is_exactly(row[0], match):
            return False
        if not shows_parted(one, other, (stand, goal, match), row[1]):
            return False
    return True


def turnings(machine, stand):
    """The rising tuple of the matches by which a stand is kin with itself."""
    return kin(machine, stand, machine, stand)
