"""The least machine: one stand for each class of kin, each holding a core alone."""

from strangeseats.alike import is_by, refuse_unlike_words
from strangeseats.errors import NotLeast, Unlike
from strangeseats.frames import held_things
from strangeseats.kin import Kinship, things_matched
from strangeseats.machines import frame_of, lines_of, reached, rule
from strangeseats.matches import joined_match, turned_match
from strangeseats.vain import core_in


def kin_among(ship, stand, goals):
    """(place, least match) of the first of these goals that is the stand's kin; None where none is."""
    for at, goal in enumerate(goals):
        found = ship.kin_matches(stand, goal)
        if found:
            return (at, found[0])
    return None


class Core:
    """The pockets that a stand needs, as the pockets of a frame of their own."""

    def __init__(self, things):
        self.houses = [thing[0] for thing in things if len(thing) == 1]
        self.seats = [[thing[1] for thing in things if len(thing) == 2 and thing[0] == house] for house in self.houses]
        self.old_things = {(-1,): (-1,), (-1, -1): (-1, -1)}
        for at, house in enumerate(self.houses):
            self.old_things[(at,)] = (house,)
            self.old_things[(at, -1)] = (house, -1)
            for place, seat in enumerate(self.seats[at]):
                self.old_things[(at, place)] = (house, seat)
        self.new_things = {self.old_things[thing]: thing for thing in self.old_things}

    def frame(self):
        """The frame of these pockets alone."""
        return tuple(len(row) for row in self.seats)

    def old_case(self, word, case):
        """The case of the whole stand that is met where this one is, and nothing in vain."""
        if word == "join":
            return tuple(self.old_things[(part,)][0] for part in case)
        return self.old_things[case]

    def new_saying(self, saying):
        """A saying of the whole stand, told by these pockets."""
        return saying[:1] + tuple(self.new_things[thing] for thing in saying[1:])

    def new_fill(self, fill, goal, match):
        """The fill of the goal's core, by the fill of a whole stand that this match makes kin with the goal."""
        sources = {theirs: (mine, {seat: place for place, seat in pairs}) for mine, theirs, pairs in match}
        rows = []
        for house, seats in zip(goal.houses, goal.seats):
            mine, places = sources[house]
            thing, things = fill[mine]
            rows.append((self.new_things[thing], tuple(self.new_things[things[places[seat]]] for seat in seats)))
        return tuple(rows)


def least(machine):
    """A machine that answers every history alike, with one stand for each class of kin among those reached."""
    ship = Kinship(machine, machine)
    chosen = []
    homes = {}
    for stand in reached(machine):
        home = kin_among(ship, stand, chosen)
        if home is None:
            chosen.append(stand)
            home = (len(chosen) - 1, ship.kin_matches(stand, stand)[0])
        homes[stand] = home
    cores = [Core(core_in(ship.within_one, stand)) for stand in chosen]
    stands = []
    for stand, own in zip(chosen, cores):
        stands.append((own.frame(), small_rules(machine, stand, own, cores, homes)))
    return (machine[0], tuple(stands))


def small_rules(machine, stand, own, cores, homes):
    """The rules of the least machine's stand that stands for this one; homes tells (place, match) of each stand."""
    rows = []
    for word, case in lines_of(machine[0], own.frame()):
        goal, fill, saying = rule(machine, stand, word, own.old_case(word, case))
        at, match = homes[goal]
        rows.append((at, own.new_fill(fill, cores[at], match), own.new_saying(saying)))
    return tuple(rows)


def is_least(machine):
    """Whether all stands are reached, nothing is in vain at any, and no two are kin."""
    stands = list(range(len(machine[1])))
    if list(reached(machine)) != stands:
        return False
    ship = Kinship(machine, machine)
    for stand in stands:
        if core_in(ship.within_one, stand) != tuple(held_things(frame_of(machine, stand))):
            return False
        if kin_among(ship, stand, stands[:stand]) is not None:
            return False
    return True


def onto(machine, small):
    """The rising tuple of (stand, its kin in the least machine small, least match) for each stand reached."""
    if not is_least(small):
        raise NotLeast("the second machine isn't a least one")
    refuse_unlike_words(machine, small)
    ship = Kinship(machine, small)
    if not ship.across.is_alike((0, 0, ())):
        raise Unlike("these machines aren't alike")
    goals = list(range(len(small[1])))
    return tuple((stand,) + kin_among(ship, stand, goals) for stand in reached(machine))


def pairs_core_with_frame(ship, row):
    """Whether a row's match pairs all of the stand's core with all of the goal's frame, and nothing else."""
    stand, goal, match = row
    if things_matched(match) != core_in(ship.within_one, stand):
        return False
    return things_matched(turned_match(match)) == tuple(held_things(frame_of(ship.across.other, goal)))


def goes_on_within(walk, row, allowed):
    """Whether all that comes behind a row is said alike and allowed."""
    for word, meeting, same, behind in walk.outcomes(row):
        if not same or behind not in allowed:
            return False
    return True


def shows_onto(machine, small, thing):
    """Whether small is least, and anything tells how each stand reached goes onto one of small's."""
    stands = reached(machine)
    if not is_least(small) or not isinstance(thing, tuple) or not all(is_by(machine, small, row) for row in thing):
        return False
    if tuple(row[0] for row in thing) != stands or thing[0] != (0, 0, ()):
        return False
    ship = Kinship(machine, small)
    if not all(pairs_core_with_frame(ship, row) for row in thing):
        return False
    own = Kinship(small, small)
    allowed = {}
    for stand, goal, match in thing:
        for turning in own.kin_matches(goal, goal):
            allowed[(stand, goal, joined_match(match, turning))] = True
    return all(goes_on_within(ship.across, row, allowed) for row in thing)
