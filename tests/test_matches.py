"""Point 12: matches of frames, and the fillings that they tell."""

import itertools
import unittest

from makers import FRAMES, ODD_THINGS, same, spoilt
from strangeseats.matches import fillings, is_match, joined_match, matches, turned_match


def subsets_of_pairs(firsts, seconds):
    """All sets of pairs in which nothing comes twice, gone through one by one."""
    pairs = list(itertools.product(firsts, seconds))
    for many in range(len(pairs) + 1):
        for chosen in itertools.combinations(pairs, many):
            if all(len({pair[at] for pair in chosen}) == many for at in (0, 1)):
                yield chosen


def slow_matches(frame, other):
    rows = []
    for houses in subsets_of_pairs(range(len(frame)), range(len(other))):
        seats = [list(subsets_of_pairs(range(frame[i]), range(other[j]))) for i, j in houses]
        for chosen in itertools.product(*seats):
            rows.append(tuple(sorted((i, j, tuple(sorted(pairs))) for (i, j), pairs in zip(houses, chosen))))
    return tuple(sorted(rows))


def paired(match):
    """The pairs of things of both frames that a match pairs."""
    rows = set()
    for i, j, pairs in match:
        rows |= {((i,), (j,))} | {((i, k), (j, l)) for k, l in pairs}
    return rows


def held(filling):
    rows = {}
    for at, (house, names) in enumerate(filling):
        rows[(at,)] = (house,)
        rows.update({(at, seat): name for seat, name in enumerate(names)})
    return rows


PAIRS = list(itertools.product(FRAMES, FRAMES))


class Matches(unittest.TestCase):
    def test_some(self):
        self.assertEqual(matches((), ()), ((),))
        self.assertEqual(matches(frame=(), other=(2, 2)), ((),))
        self.assertEqual(matches((0,), (1,)), ((), ((0, 0, ()),)))
        self.assertEqual(matches((1,), (1,)), ((), ((0, 0, ()),), ((0, 0, ((0, 0),)),)))
        self.assertEqual(
            matches((1,), (0, 1)), ((), ((0, 0, ()),), ((0, 1, ()),), ((0, 1, ((0, 0),)),))
        )
        self.assertEqual(len(matches((2, 2), (2, 2))), 127)

    def test_all_of_all_frames(self):
        for frame, other in PAIRS:
            told = matches(frame, other)
            self.assertTrue(same(told, slow_matches(frame, other)))
            for match in told:
                self.assertIs(is_match(frame, other, match), True)

    def test_things_that_are_none(self):
        for frame, other in (((2, 1), (1, 2)), ((2,), (0, 2)), ((0, 0), (0, 0)), ((2, 2), (2, 2))):
            known = {repr(match) for match in slow_matches(frame, other)}
            for match in matches(frame, other):
                for thing in spoilt(match):
                    self.assertIs(is_match(frame, other, thing), repr(thing) in known)

    def test_wrong_ones(self):
        for thing in (
            ((0, 0),), ((0, 0, (), ()),), ((0, 0, ((0, 0), (0, 1))),), ((0, 0, ((0, 0), (1, 0))),), ((0, 0, ((1, 0), (0, 1))),),
            ((0, 0, ((0, 0), (0, 0))),), ((0, 0, ()), (1, 0, ())), ((0, 0, ()), (0, 1, ())), ((1, 0, ()), (0, 1, ())),
            ((0, 0, ()), (0, 0, ())), ((2, 0, ()),), ((0, 2, ()),), ((-1, 0, ()),), ((0, 0, ((2, 0),)),), ((0, 0, ((0, -1),)),),
            ((0, 0, [(0, 0)]),), ((0, 0, ([0, 0],)),), ([0, 0, ()],), [(0, 0, ())], ((False, 0, ()),), ((0, True, ()),),
            ((0, 0, ((False, 0),)),), ((0, 0, None),), (0, 0, ()), ((0, 0, ((0,),)),), ((0, 0, ((0, 0, 0),)),), ("00",),
        ):
            self.assertIs(is_match((2, 2), (2, 2), thing), False, thing)

    def test_things_of_any_kind(self):
        for thing in ODD_THINGS:
            self.assertIs(is_match((2, 2), (2, 2), thing), False)
            self.assertIs(is_match(frame=(2, 2), other=(2, 2), thing=(thing,)), False)
            self.assertIs(is_match((2, 2), (2, 2), ((0, 0, thing),)), False)
            self.assertIs(is_match((2, 2), (2, 2), ((0, 0, (thing,)),)), repr(thing) == "(0, 0)")
            self.assertIs(is_match((2, 2), (2, 2), ((thing, 1, ()),)), repr(thing) in ("0", "1"))
        self.assertIs(is_match((), (), ()), True)


class Turned(unittest.TestCase):
    def test_turned(self):
        self.assertEqual(turned_match(()), ())
        self.assertEqual(turned_match(match=((0, 1, ((0, 1), (1, 0))), (1, 0, ()))), ((0, 1, ()), (1, 0, ((0, 1), (1, 0)))))
        for frame, other in PAIRS:
            for match in matches(frame, other):
                turned = turned_match(match)
                self.assertTrue(is_match(other, frame, turned))
                self.assertEqual(turned_match(turned), match)
                self.assertEqual(paired(turned), {(second, first) for first, second in paired(match)})

    def test_joined(self):
        whole = ((0, 0, ((0, 0), (1, 1))), (1, 1, ((0, 0),)))
        crossed = ((0, 0, ((0, 1), (1, 0))),)
        self.assertEqual(joined_match(whole, whole), whole)
        self.assertEqual(joined_match(match=whole, onward=crossed), crossed)
        self.assertEqual(joined_match(crossed, crossed), ((0, 0, ((0, 0), (1, 1))),))
        self.assertEqual(joined_match(crossed, ()), ())
        self.assertEqual(joined_match(((0, 1, ((1, 0),)),), ((1, 1, ((0, 1),)),)), ((0, 1, ((1, 1),)),))

    def test_joined_in_either_order(self):
        three = ((2, 1), (1, 2), (2,))
        for match in matches(three[0], three[1]):
            for onward in matches(three[1], three[2]):
                told = joined_match(match, onward)
                self.assertTrue(is_match(three[0], three[2], told))
                through = {(a, d) for a, b in paired(match) for c, d in paired(onward) if b == c}
                self.assertEqual(paired(told), through)
                self.assertEqual(joined_match(turned_match(onward), turned_match(match)), turned_match(told))

    def test_whichever_is_put_together_first(self):
        frame = (1, 2)
        some = matches(frame, frame)[::5]
        for one, two, three in itertools.product(some, some, some):
            self.assertEqual(
                joined_match(joined_match(one, two), three), joined_match(one, joined_match(two, three))
            )


class Fillings(unittest.TestCase):
    def test_some(self):
        self.assertEqual(fillings((), (), ()), ((), ()))
        self.assertEqual(fillings((2,), (1,), ()), (((0, ((0, 0), (0, 1))),), ((1, ((1, 0),)),)))
        self.assertEqual(
            fillings(frame=(2, 1), other=(2, 2), match=((0, 1, ((1, 0),)),)),
            (((0, ((0, 0), (0, 1))), (1, ((1, 0),))), ((2, ((2, 0), (2, 1))), (0, ((0, 1), (0, 2))))),
        )
        self.assertEqual(
            fillings((0, 1), (2, 2), ((1, 0, ()),)),
            (((0, ()), (1, ((1, 0),))), ((1, ((1, 1), (1, 2))), (2, ((2, 0), (2, 1))))),
        )
        self.assertEqual(fillings((1,), (0, 1), ()), (((0, ((0, 0),)),), ((1, ()), (2, ((2, 0),)))))

    def test_just_what_is_paired_holds_the_same(self):
        for frame, other in PAIRS:
            for match in matches(frame, other):
                one, two = fillings(frame, other, match)
                self.assertEqual(tuple(len(names) for _, names in one), frame)
                self.assertEqual(tuple(len(names) for _, names in two), other)
                mine, theirs = held(one), held(two)
                self.assertEqual(len(set(mine.values())), len(mine))
                self.assertEqual(len(set(theirs.values())), len(theirs))
                alike = {(a, b) for a in mine for b in theirs if mine[a] == theirs[b]}
                self.assertEqual(alike, paired(match))
                for filling in (one, two):
                    for house, names in filling:
                        self.assertTrue(all(name[0] == house for name in names))

    def test_numbers_and_seats_have_no_gaps(self):
        for frame, other in PAIRS:
            for match in matches(frame, other):
                pair = fillings(frame, other, match)
                names = sorted({name for filling in pair for _, below in filling for name in below})
                houses = sorted({house for filling in pair for house, _ in filling})
                self.assertEqual(houses, list(range(len(houses))))
                for house in houses:
                    seats = [seat for number, seat in names if number == house]
                    self.assertEqual(seats, list(range(len(seats))))


if __name__ == "__main__":
    unittest.main()
