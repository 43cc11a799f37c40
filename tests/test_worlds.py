"""Point 4: houses and joins."""

import random
import unittest

from strangeseats.errors import Missing, Nothing, OneHouse, Refused
from strangeseats.worlds import World


def houses_of(joins):
    """The houses of more than one number, told by going from number to number."""
    rows = []
    for house, other in joins:
        grown = {house, other}
        rest = []
        for row in rows:
            if row & grown:
                grown |= row
            else:
                rest.append(row)
        rows = rest + [grown]
    return rows


def numbers_of(joins, house):
    for row in houses_of(joins):
        if house in row:
            return tuple(sorted(row))
    return (house,)


def told(world, most=12):
    """All that a World tells of its numbers below most."""
    rows = [(world.called(house), world.numbers(house)) for house in range(most)]
    pairs = [world.is_one(house, other) for house in range(most) for other in range(most)]
    return rows, pairs, world.joins()


class NewWorlds(unittest.TestCase):
    def test_each_number_is_a_house_by_itself(self):
        world = World()
        for house in (0, 1, 7, 200, 999999999):
            self.assertEqual(world.called(house), house)
            self.assertEqual(world.numbers(house), (house,))
            self.assertIs(world.is_one(house, house), True)
            self.assertIs(world.is_one(house, house + 1), False)
        self.assertEqual(world.joins(), ())

    def test_asking_changes_nothing(self):
        world = World()
        world.called(5)
        world.numbers(5)
        world.is_one(5, 6)
        self.assertEqual(told(world), told(World()))
        self.assertRaises(Nothing, world.back)


class Joins(unittest.TestCase):
    def test_a_house_is_called_by_the_least_of_its_numbers(self):
        world = World()
        world.join(5, 9)
        self.assertEqual([world.called(5), world.called(9)], [5, 5])
        world.join(9, 2)
        self.assertEqual([world.called(house) for house in (2, 5, 9)], [2, 2, 2])
        self.assertEqual(world.called(3), 3)

    def test_numbers_are_rising(self):
        world = World()
        world.join(9, 5)
        world.join(7, 1)
        world.join(9, 7)
        for house in (1, 5, 7, 9):
            self.assertEqual(world.numbers(house), (1, 5, 7, 9))
        self.assertEqual(world.numbers(6), (6,))
        self.assertIsInstance(world.numbers(9), tuple)

    def test_all_numbers_of_both_houses_are_one(self):
        world = World(((0, 1), (2, 3)))
        self.assertIs(world.is_one(1, 3), False)
        world.join(1, 3)
        for house in range(4):
            for other in range(4):
                self.assertIs(world.is_one(house, other), True)
        self.assertIs(world.is_one(0, 4), False)
        self.assertIs(world.is_one(4, 0), False)

    def test_far_numbers(self):
        world = World(((999999999, 123456789),))
        world.join(999999998, 999999999)
        self.assertEqual(world.called(999999998), 123456789)
        self.assertEqual(world.numbers(999999999), (123456789, 999999998, 999999999))
        world.join(0, 999999998)
        self.assertEqual(world.called(123456789), 0)

    def test_joins_at_the_making_are_as_those_done_later(self):
        joins = ((9, 5), (0, 3), (5, 3))
        world = World()
        for house, other in joins:
            self.assertIsNone(world.join(house, other))
        self.assertEqual(told(World(joins)), told(world))
        self.assertEqual(told(World(joins=joins)), told(world))

    def test_joins_are_told_as_they_were_handed_in(self):
        world = World(((9, 5), (0, 3)))
        world.join(5, 3)
        world.join(9, 1)
        self.assertEqual(world.joins(), ((9, 5), (0, 3), (5, 3), (9, 1)))
        self.assertIsInstance(world.joins(), tuple)
        self.assertTrue(all(isinstance(pair, tuple) for pair in world.joins()))

    def test_what_was_told_stays_as_it_was(self):
        world = World(((0, 1),))
        numbers, joins = world.numbers(1), world.joins()
        world.join(1, 2)
        self.assertEqual((numbers, joins), ((0, 1), ((0, 1),)))

    def test_arguments_by_their_names(self):
        world = World(joins=((4, 2),))
        world.join(house=7, other=4)
        self.assertEqual(world.called(house=7), 2)
        self.assertIs(world.is_one(house=7, other=2), True)
        self.assertEqual(world.numbers(house=4), (2, 4, 7))

    def test_two_hundred_joins(self):
        world = World(tuple((at + 1, at) for at in range(200)))
        self.assertEqual(world.numbers(77), tuple(range(201)))
        self.assertEqual(world.called(200), 0)
        for _ in range(199):
            world.back()
        self.assertEqual(told(world), told(World(((1, 0),))))


class RefusedJoins(unittest.TestCase):
    def assert_refused(self, world, house, other, called):
        before = told(world)
        with self.assertRaises(OneHouse) as caught:
            world.join(house, other)
        self.assertEqual(caught.exception.house, called)
        self.assertIsInstance(caught.exception, Refused)
        self.assertEqual(told(world), before)

    def test_a_number_with_itself(self):
        self.assert_refused(World(), 4, 4, 4)
        self.assert_refused(World(((1, 4),)), 4, 4, 1)

    def test_what_is_one_by_a_join(self):
        world = World(((5, 9),))
        self.assert_refused(world, 5, 9, 5)
        self.assert_refused(world, 9, 5, 5)

    def test_what_is_one_through_others(self):
        world = World(((5, 9), (3, 7), (9, 7)))
        self.assert_refused(world, 9, 7, 3)
        self.assert_refused(world, 5, 9, 3)

    def test_nothing_is_there_to_take_back_of_a_refused_join(self):
        world = World()
        self.assertRaises(OneHouse, world.join, 2, 2)
        self.assertRaises(Nothing, world.back)


class Back(unittest.TestCase):
    def test_nothing_to_take_back(self):
        world = World()
        self.assertRaises(Nothing, world.back)
        self.assertRaises(Missing, world.back)
        self.assertEqual(told(world), told(World()))

    def test_joins_done_and_handed_in_at_the_making(self):
        joins = ((9, 5), (0, 3), (5, 3), (11, 9))
        world = World(joins[:2])
        world.join(5, 3)
        world.join(11, 9)
        for many in (3, 2, 1, 0):
            self.assertIsNone(world.back())
            self.assertEqual(told(world), told(World(joins[:many])))
        self.assertRaises(Nothing, world.back)

    def test_a_join_may_be_done_again(self):
        world = World(((0, 1),))
        world.back()
        world.join(1, 2)
        world.join(1, 0)
        self.assertEqual(world.joins(), ((1, 2), (1, 0)))
        self.assertEqual(world.numbers(2), (0, 1, 2))

    def test_last_joins_first(self):
        world = World(((0, 1), (2, 3), (1, 3)))
        world.back()
        self.assertEqual([world.numbers(house) for house in range(4)], [(0, 1), (0, 1), (2, 3), (2, 3)])


class Twins(unittest.TestCase):
    def test_a_twin_is_as_its_world(self):
        world = World(((9, 5),))
        world.join(2, 9)
        twin = world.twin()
        self.assertIsInstance(twin, World)
        self.assertEqual(told(twin), told(world))

    def test_a_twin_goes_on_by_itself(self):
        world = World(((9, 5),))
        before = told(world)
        twin = world.twin()
        twin.join(5, 1)
        self.assertEqual(told(world), before)
        twin.back()
        twin.back()
        self.assertRaises(Nothing, twin.back)
        self.assertEqual(told(world), before)

    def test_a_world_goes_on_without_its_twin(self):
        world = World(((9, 5),))
        before = told(world)
        twin = world.twin()
        world.join(5, 1)
        self.assertEqual(told(twin), before)
        world.back()
        world.back()
        self.assertEqual(told(twin), before)
        self.assertEqual(told(world), told(World()))

    def test_worlds_have_nothing_in_common(self):
        World().join(0, 1)
        self.assertEqual(World().called(1), 1)


class ManyWorlds(unittest.TestCase):
    def test_worlds_against_sets(self):
        chance = random.Random(4)
        for _ in range(150):
            world, joins = World(), []
            for _ in range(chance.randrange(30)):
                self.step(chance, world, joins)
            self.assertEqual(world.joins(), tuple(joins))
            for house in range(13):
                numbers = numbers_of(joins, house)
                self.assertEqual(world.numbers(house), numbers)
                self.assertEqual(world.called(house), numbers[0])
                for other in range(13):
                    self.assertIs(world.is_one(house, other), other in numbers)

    def step(self, chance, world, joins):
        house, other = chance.randrange(13), chance.randrange(13)
        if chance.randrange(4) == 0 and joins:
            world.back()
            joins.pop()
        elif other in numbers_of(joins, house):
            self.assertRaises(OneHouse, world.join, house, other)
        else:
            world.join(house, other)
            joins.append((house, other))


if __name__ == "__main__":
    unittest.main()
