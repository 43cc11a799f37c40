"""Point 6, and the ground of point 3 (a): plain histories, like ones, and how they go on."""

import random
import unittest

from makers import WORDS, renumbered, some_history, world_behind
from strangeseats.letters import houses_in, is_history, names_in, nexts, plain


def read_of_house(history, world, house):
    """A number read so far of the house that has this number, or None."""
    for number in houses_in(history):
        if world.is_one(number, house):
            return number
    return None


def slow_plain(history):
    """The plain history as point 6 words it, all looked up anew at each letter."""
    out = ()
    for at, (word, house, other) in enumerate(history):
        ahead, world, plainly = history[:at], world_behind(history[:at]), world_behind(out)
        fresh = len(houses_in(out))

        def new_house(number):
            known = read_of_house(ahead, world, number)
            if known is None:
                return None
            return plainly.called(houses_in(out)[houses_in(ahead).index(known)])

        if word == "join":
            one, two = new_house(house), new_house(other)
            if one is None and two is None:
                one, two = fresh, fresh + 1
            one = fresh if one is None else one
            two = fresh if two is None else two
            out += (("join", min(one, two), max(one, two)),)
        elif (house, other) in names_in(ahead):
            out += ((word,) + names_in(out)[names_in(ahead).index((house, other))],)
        elif new_house(house) is None:
            out += ((word, fresh, 0),)
        else:
            called = new_house(house)
            out += ((word, called, len([name for name in names_in(out) if name[0] == called])),)
    return out


class PlainHistories(unittest.TestCase):
    def assert_plain(self, history, due):
        self.assertTrue(is_history(WORDS, history))
        self.assertEqual(plain(history), due)
        self.assertEqual(plain(due), due)

    def test_none(self):
        self.assertEqual(plain(()), ())

    def test_a_name_and_that_name_again(self):
        self.assert_plain((("a", 7, 5), ("zz", 7, 5), ("a", 7, 5)), (("a", 0, 0), ("zz", 0, 0), ("a", 0, 0)))

    def test_more_houses_and_seats(self):
        self.assert_plain(
            (("a", 7, 5), ("a", 2, 5), ("a", 7, 1), ("k", 2, 0), ("k", 7, 0), ("a", 7, 5), ("a", 9, 9)),
            (("a", 0, 0), ("a", 1, 0), ("a", 0, 1), ("k", 1, 1), ("k", 0, 2), ("a", 0, 0), ("a", 2, 0)),
        )

    def test_a_join_of_houses_read(self):
        self.assert_plain(
            (("a", 7, 5), ("a", 2, 5), ("join", 2, 7), ("a", 2, 9), ("a", 7, 9), ("a", 2, 5)),
            (("a", 0, 0), ("a", 1, 0), ("join", 0, 1), ("a", 0, 1), ("a", 0, 2), ("a", 1, 0)),
        )

    def test_names_of_a_house_by_another_of_its_numbers(self):
        self.assert_plain(
            (("a", 3, 0), ("a", 8, 0), ("a", 8, 1), ("join", 3, 8), ("a", 8, 2), ("a", 8, 1), ("a", 8, 2), ("a", 3, 1)),
            (("a", 0, 0), ("a", 1, 0), ("a", 1, 1), ("join", 0, 1), ("a", 0, 1), ("a", 1, 1), ("a", 0, 1), ("a", 0, 2)),
        )

    def test_a_join_of_a_house_read_and_one_that_is_not(self):
        for join in (("join", 2, 7), ("join", 7, 9)):
            strange = join[2] if join[1] == 7 else join[1]
            self.assert_plain(
                (("a", 7, 5), join, ("k", strange, 5), ("k", 7, 5), ("a", 1, 0)),
                (("a", 0, 0), ("join", 0, 1), ("k", 0, 1), ("k", 0, 0), ("a", 2, 0)),
            )

    def test_a_join_of_two_new_houses(self):
        self.assert_plain(
            (("join", 4, 6), ("a", 6, 3), ("a", 4, 3), ("join", 2, 9), ("a", 9, 9), ("join", 2, 4), ("a", 4, 4)),
            (("join", 0, 1), ("a", 0, 0), ("a", 0, 1), ("join", 2, 3), ("a", 2, 0), ("join", 0, 2), ("a", 0, 2)),
        )

    def test_of_two_new_houses_the_lesser_is_the_lesser(self):
        history = (("join", 4, 6), ("join", 4, 5), ("a", 6, 0))
        self.assert_plain(history, (("join", 0, 1), ("join", 0, 2), ("a", 0, 0)))
        self.assertEqual(houses_in(history), (4, 6, 5))

    def test_the_lesser_called_number_stands_first_in_joins(self):
        self.assert_plain(
            (("a", 9, 0), ("a", 5, 0), ("a", 1, 0), ("join", 1, 9), ("join", 1, 5)),
            (("a", 0, 0), ("a", 1, 0), ("a", 2, 0), ("join", 0, 2), ("join", 0, 1)),
        )

    def test_like_seats_of_unlike_houses_are_unlike_names(self):
        self.assert_plain((("a", 0, 3), ("a", 1, 3)), (("a", 0, 0), ("a", 1, 0)))

    def test_far_numbers(self):
        self.assert_plain((("a", 999999999, 999999998), ("a", 999999999, 0)), (("a", 0, 0), ("a", 0, 1)))

    def test_two_hundred_letters(self):
        history = tuple(("a", 500 - at, at) for at in range(200))
        self.assert_plain(history, tuple(("a", at, 0) for at in range(200)))
        joins = tuple(("join", 299 - at, 300 - at) for at in range(200))
        self.assert_plain(joins, (("join", 0, 1),) + tuple(("join", 0, at + 2) for at in range(199)))

    def test_what_is_handed_in_and_told(self):
        history = (("a", 3, 3), ("join", 2, 3))
        told = plain(history=history)
        self.assertEqual(history, (("a", 3, 3), ("join", 2, 3)))
        self.assertIsInstance(told, tuple)
        self.assertTrue(all(isinstance(letter, tuple) for letter in told))

    def test_against_the_words_of_the_document(self):
        chance = random.Random(6)
        for _ in range(300):
            history = some_history(chance, chance.randrange(16))
            due = slow_plain(history)
            self.assert_plain(history, due)
            self.assertTrue(is_history(WORDS, due))
            self.assertEqual([letter[0] for letter in due], [letter[0] for letter in history])


class LikeHistories(unittest.TestCase):
    def test_other_numbers_have_the_same_plain_history(self):
        chance = random.Random(3)
        for _ in range(200):
            history = some_history(chance, chance.randrange(16))
            other = renumbered(history, chance)
            self.assertTrue(is_history(WORDS, other))
            self.assertEqual(plain(other), plain(history))

    def test_unlike_ones(self):
        for one, other in (
            ((("a", 0, 0),), (("k", 0, 0),)),
            ((("a", 0, 0), ("a", 0, 1)), (("a", 0, 0), ("a", 1, 0))),
            ((("a", 0, 0), ("a", 0, 0)), (("a", 0, 0), ("a", 0, 1))),
            ((("a", 0, 0), ("join", 0, 1)), (("a", 0, 0), ("join", 1, 2))),
            ((("a", 0, 0), ("a", 1, 0), ("join", 0, 1)), (("a", 0, 0), ("a", 1, 0), ("join", 0, 2))),
            ((("a", 0, 0),), (("a", 0, 0), ("a", 0, 0))),
        ):
            self.assertNotEqual(plain(one), plain(other))

    def test_names_and_numbers_are_like_place_by_place(self):
        chance = random.Random(5)
        for _ in range(100):
            history = some_history(chance, chance.randrange(16))
            told = plain(history)
            names = dict(zip(names_in(history), names_in(told), strict=True))
            numbers = dict(zip(houses_in(history), houses_in(told), strict=True))
            self.assertEqual(houses_in(told), tuple(range(len(numbers))))
            world, plainly = world_behind(history), world_behind(told)
            for letter, other in zip(history, told, strict=True):
                if letter[0] != "join":
                    self.assertEqual(names[letter[1:]], other[1:])
                    self.assertTrue(plainly.is_one(numbers[letter[1]], other[1]))
            for number in numbers:
                for other in numbers:
                    self.assertEqual(world.is_one(number, other), plainly.is_one(numbers[number], numbers[other]))


class Nexts(unittest.TestCase):
    def due(self, words, history):
        """All letters that go on plainly, found by trying all with small numbers."""
        most = len(history) * 2 + 3
        letters = []
        for word in words + ("join",):
            for house in range(most):
                for other in range(most):
                    longer = history + ((word, house, other),)
                    if is_history(words, longer) and slow_plain(longer) == longer:
                        letters.append(longer[-1])
        return tuple(sorted(letters))

    def test_behind_none(self):
        self.assertEqual(nexts(("a",), ()), (("a", 0, 0), ("join", 0, 1)))
        self.assertEqual(nexts(("k", "zz"), ()), (("join", 0, 1), ("k", 0, 0), ("zz", 0, 0)))

    def test_behind_a_name(self):
        self.assertEqual(
            nexts(words=("a",), history=(("a", 0, 0),)),
            (("a", 0, 0), ("a", 0, 1), ("a", 1, 0), ("join", 0, 1), ("join", 1, 2)),
        )

    def test_behind_a_join_of_new_houses(self):
        self.assertEqual(
            nexts(("a",), (("join", 0, 1),)),
            (("a", 0, 0), ("a", 2, 0), ("join", 0, 2), ("join", 2, 3)),
        )

    def test_behind_a_join_of_houses_read(self):
        self.assertEqual(
            nexts(("zz",), (("zz", 0, 0), ("zz", 1, 0), ("zz", 1, 1), ("join", 0, 1))),
            (
                ("join", 0, 2), ("join", 2, 3),
                ("zz", 0, 0), ("zz", 0, 1), ("zz", 1, 0), ("zz", 1, 1), ("zz", 2, 0),
            ),
        )

    def test_all_that_go_on_and_no_others(self):
        chance = random.Random(9)
        for many in (0, 1, 2, 3, 4, 5) * 4:
            words = chance.choice((("a",), ("k", "zz"), WORDS))
            history = plain(some_history(chance, many, words=words))
            with self.subTest(history):
                self.assertEqual(nexts(words, history), self.due(words, history))

    def test_each_goes_on_to_a_plain_one(self):
        chance = random.Random(10)
        for _ in range(25):
            history = plain(some_history(chance, chance.randrange(30)))
            letters = nexts(WORDS, history)
            self.assertEqual(letters, tuple(sorted(set(letters))))
            for letter in letters:
                longer = history + (letter,)
                self.assertTrue(is_history(WORDS, longer))
                self.assertEqual(plain(longer), longer)

    def test_two_hundred_letters(self):
        history = tuple(("a", 0, at) for at in range(199)) + (("join", 0, 1),)
        self.assertEqual(
            nexts(("a",), history),
            tuple(("a", 0, at) for at in range(200)) + (("a", 2, 0), ("join", 0, 2), ("join", 2, 3)),
        )


if __name__ == "__main__":
    unittest.main()
