"""Meetings: what one letter meets in two machines at once, and where both go on to."""

from strangeseats.machines import frame_of, lines_of, rule
from strangeseats.matches import fillings, match_between
from strangeseats.talkers import filled_by, join_case, spoken, there_at_join, there_at_word, word_case
from strangeseats.worlds import World

# Two fillings have at most four houses, called 0 to 3, and four seats in each: these are strange to both.
NEW_HOUSES = (4, 5)
NEW_SEAT = 4


def names_to_meet(pair):
    """Names enough to meet all that a word can meet in a pair of fillings."""
    names = [name for filling in pair for house, below in filling for name in below]
    houses = [house for filling in pair for house, below in filling]
    return names + [(house, NEW_SEAT) for house in houses] + [(NEW_HOUSES[0], 0)]


def word_spots(pair):
    """A dict of each meeting of a word: what there is then for the one, and for the other."""
    one, other = pair
    world = World()
    spots = {}
    for name in names_to_meet(pair):
        mine = word_case(one, name, world)
        theirs = word_case(other, name, world)
        spots[(mine, theirs)] = (
            there_at_word(one, mine, name[0], name),
            there_at_word(other, theirs, name[0], name),
        )
    return spots


def join_spots(pair):
    """A dict of each meeting of a join: what there is then for the one, and for the other."""
    one, other = pair
    houses = sorted({house for filling in pair for house, below in filling}) + list(NEW_HOUSES)
    spots = {}
    for at, greater in enumerate(houses):
        for lesser in houses[:at]:
            mine = join_case(one, lesser, greater)
            theirs = join_case(other, lesser, greater)
            spots[(mine, theirs)] = (
                there_at_join(one, mine, lesser, greater),
                there_at_join(other, theirs, lesser, greater),
            )
    return spots


def spots_of(frame, other, match, word):
    """A dict of each meeting of this word, join too."""
    pair = fillings(frame, other, match)
    return join_spots(pair) if word == "join" else word_spots(pair)


def meetings(frame, other, match):
    """The rising tuple of the pairs of cases that one word with one name can meet."""
    return tuple(sorted(word_spots(fillings(frame, other, match))))


def join_meetings(frame, other, match):
    """The rising tuple of the pairs of cases that a join of two houses can meet."""
    return tuple(sorted(join_spots(fillings(frame, other, match))))


def outcome(row, other_row, spot):
    """(whether both say the same, the by behind it) of two rules, by what there is for both."""
    goal, fill, saying = row
    other_goal, other_fill, other_saying = other_row
    mine, theirs = spot
    match = match_between(filled_by(fill, mine), filled_by(other_fill, theirs))
    return spoken(saying, mine) == spoken(other_saying, theirs), (goal, other_goal, match)


def gone_on(one, other, by, word, meeting):
    """(whether both say the same, the by behind it) of a word, join too, with this meeting."""
    stand, goal, match = by
    spots = spots_of(frame_of(one, stand), frame_of(other, goal), match, word)
    mine, theirs = meeting
    return outcome(rule(one, stand, word, mine), rule(other, goal, word, theirs), spots[meeting])


def rules_by_line(machine):
    """For each stand a dict of its rules by (word, case)."""
    return [
        {line: row for line, row in zip(lines_of(machine[0], frame), rows)}
        for frame, rows in machine[1]
    ]


class Walk:
    """Two machines of the same words that read together; what was found out once is kept."""

    def __init__(self, one, other):
        self.one = one
        self.other = other
        self.rules_of_one = rules_by_line(one)
        self.rules_of_other = rules_by_line(other)
        self.known_spots = {}
        self.known_outcomes = {}
        self.verdicts = {}

    def spots_at(self, by):
        """The list of (word, meeting, spot) of each word, join too, behind it."""
        stand, goal, match = by
        frame = frame_of(self.one, stand)
        other = frame_of(self.other, goal)
        key = (frame, other, match)
        if key not in self.known_spots:
            rows = []
            for word in self.one[0] + ("join",):
                spots = spots_of(frame, other, match, word)
                rows.extend([(word, meeting, spots[meeting]) for meeting in spots])
            self.known_spots[key] = rows
        return self.known_spots[key]

    def outcomes(self, by):
        """The list of (word, meeting, whether both say the same, the by behind it)."""
        if by not in self.known_outcomes:
            mine = self.rules_of_one[by[0]]
            theirs = self.rules_of_other[by[1]]
            rows = []
            for word, meeting, spot in self.spots_at(by):
                same, behind = outcome(mine[(word, meeting[0])], theirs[(word, meeting[1])], spot)
                rows.append((word, meeting, same, behind))
            self.known_outcomes[by] = rows
        return self.known_outcomes[by]

    def fills_at(self, by, word, meeting):
        """The pair of fills by which the two go on at this meeting."""
        mine = self.rules_of_one[by[0]][(word, meeting[0])]
        theirs = self.rules_of_other[by[1]][(word, meeting[1])]
        return mine[1], theirs[1]

    def parts(self, by):
        """Whether one letter parts the two there."""
        return not all(same for word, meeting, same, behind in self.outcomes(by))

    def is_alike(self, by):
        """Whether every talk is answered alike from there."""
        if by not in self.verdicts:
            self.judge(by)
        return self.verdicts[by]

    def judge(self, by):
        """Settles whether the two are alike from there, by going on until all is known, or one parts."""
        came_from = {by: None}
        level = [by]
        while level:
            parting = [at for at in level if self.is_known_to_part(at)]
            if parting:
                self.settle_parted(parting[0], came_from)
                return
            behind = []
            for at in level:
                for word, meeting, same, onward in self.outcomes(at):
                    if onward not in came_from and onward not in self.verdicts:
                        came_from[onward] = at
                        behind.append(onward)
            level = behind
        for found in came_from:
            self.verdicts[found] = True

    def is_known_to_part(self, by):
        """Whether one letter parts the two there, or leads to where they were found parted."""
        return self.parts(by) or any(self.verdicts.get(row[3]) is False for row in self.outcomes(by))

    def settle_parted(self, by, came_from):
        """Settles that the two are parted from there, and from all that led there."""
        while by is not None:
            self.verdicts[by] = False
            by = came_from[by]
