"""Point 5: letters and histories of anything, and what a history reads."""

import unittest

from makers import Odd, deep
from strangeseats.letters import houses_in, is_history, is_letter, names_in
from strangeseats.worlds import World

WORDS = ("a", "bring", "zz")
NO_TUPLES_OF_THREE = (
    None, True, False, 0, 1, -1, "", "a", "a00", "abc", b"a00", "join", [], ["a", 0, 0], {}, {"a": 0, 0: 0, 1: 1},
    {"a", 0, 1}, frozenset(["a", 0, 1]), (), ("a",), ("a", 0), ("a", 0, 0, 0), ("join", 0), ("join", 0, 1, 2),
    (("a", 0, 0),), (("a", 0, 0), ("a", 0, 0), ("a", 0, 0)), World(), Odd(), range(3), len, int, object(),
    deep("a", 20), tuple(range(5000)), ["a"] * 5000,
)
NO_WORDS = (
    None, True, False, 0, 1, "", "b", "A", "aa", " a", "a ", "zzz", "z", "bri", "Join", "joins", b"a", ("a",), ["a"],
    WORDS, {}, {"a": 1}, Odd(), deep("a", 18),
)
NO_NUMBERS = (
    None, True, False, -1, -999999999, "", "0", "1", b"0", (), (0,), [], [0], {}, {0: 0}, {0}, Odd(), World(), range(2),
    deep(0, 18),
)


class Letters(unittest.TestCase):
    def test_words_with_any_two_numbers(self):
        for word in WORDS:
            for house, seat in ((0, 0), (0, 1), (1, 0), (5, 5), (7, 2), (999999999, 999999999)):
                self.assertIs(is_letter(WORDS, (word, house, seat)), True)

    def test_joins_of_two_unlike_numbers_the_lesser_first(self):
        self.assertIs(is_letter(WORDS, ("join", 0, 1)), True)
        self.assertIs(is_letter(WORDS, ("join", 3, 999999999)), True)
        self.assertIs(is_letter(WORDS, ("join", 1, 0)), False)
        self.assertIs(is_letter(WORDS, ("join", 999999999, 3)), False)
        self.assertIs(is_letter(WORDS, ("join", 0, 0)), False)
        self.assertIs(is_letter(WORDS, ("join", 8, 8)), False)

    def test_what_is_no_tuple_of_three(self):
        for thing in NO_TUPLES_OF_THREE:
            self.assertIs(is_letter(WORDS, thing), False)

    def test_words_that_are_none_of_these(self):
        for word in NO_WORDS:
            self.assertIs(is_letter(WORDS, (word, 0, 1)), False)

    def test_numbers_that_are_none(self):
        for word in ("a", "zz", "join"):
            for number in NO_NUMBERS:
                self.assertIs(is_letter(WORDS, (word, number, 5)), False)
                self.assertIs(is_letter(WORDS, (word, 0, number)), False)
                self.assertIs(is_letter(WORDS, (word, number, number)), False)

    def test_only_these_words(self):
        self.assertIs(is_letter(("a",), ("a", 0, 0)), True)
        self.assertIs(is_letter(("a",), ("zz", 0, 0)), False)
        self.assertIs(is_letter(("k", "zz"), ("a", 0, 0)), False)
        self.assertIs(is_letter(("k",), ("join", 0, 1)), True)

    def test_arguments_by_their_names(self):
        self.assertIs(is_letter(words=WORDS, thing=("join", 1, 2), joins=((1, 0),)), False)
        self.assertIs(is_letter(words=WORDS, thing=("join", 0, 2), joins=((1, 0),)), True)
        self.assertRaises(TypeError, is_letter, WORDS, ("join", 0, 2), ((1, 0),))


class LettersInAWorld(unittest.TestCase):
    joins = ((9, 5), (2, 9), (7, 3))

    def test_joins_by_what_houses_are_called(self):
        for house, other in ((2, 3), (0, 2), (0, 3), (3, 4), (2, 10), (1, 8)):
            self.assertIs(is_letter(WORDS, ("join", house, other), joins=self.joins), True)

    def test_joins_by_numbers_not_called_so(self):
        for house, other in ((2, 7), (3, 5), (3, 9), (0, 5), (0, 9), (5, 6), (7, 8), (5, 7), (9, 10)):
            self.assertIs(is_letter(WORDS, ("join", house, other), joins=self.joins), False)

    def test_joins_of_what_is_one(self):
        for house, other in ((2, 5), (2, 9), (5, 9), (3, 7), (2, 2), (9, 9)):
            self.assertIs(is_letter(WORDS, ("join", house, other), joins=self.joins), False)

    def test_the_greater_first(self):
        for house, other in ((3, 2), (2, 0), (10, 2)):
            self.assertIs(is_letter(WORDS, ("join", house, other), joins=self.joins), False)

    def test_names_stay_whatever_their_house_is_called(self):
        for house in range(12):
            self.assertIs(is_letter(WORDS, ("a", house, 1), joins=self.joins), True)

    def test_all_against_a_world(self):
        world = World(self.joins)
        for house in range(12):
            for other in range(12):
                due = house < other and world.called(house) == house and world.called(other) == other
                self.assertIs(is_letter(WORDS, ("join", house, other), joins=self.joins), due)


class Histories(unittest.TestCase):
    def test_ordinary_ones(self):
        for thing in (
            (),
            (("a", 0, 0),),
            (("a", 5, 3), ("zz", 5, 3), ("join", 5, 7), ("bring", 7, 0), ("a", 5, 3)),
            (("join", 0, 1), ("join", 0, 2), ("join", 0, 3)),
            (("join", 2, 3), ("join", 1, 2), ("join", 0, 1)),
        ):
            self.assertIs(is_history(WORDS, thing), True)

    def test_what_is_no_tuple_of_letters(self):
        for thing in NO_TUPLES_OF_THREE:
            self.assertIs(is_history(WORDS, (thing,)), False)
            self.assertIs(is_history(WORDS, (("a", 0, 0), thing)), False)
            self.assertIs(is_history(WORDS, (thing, ("a", 0, 0))), False)
        for thing in (None, True, False, 0, "", "a", b"", [], [("a", 0, 0)], {}, {("a", 0, 0): 1}, World(), Odd()):
            self.assertIs(is_history(WORDS, thing), False)
        self.assertIs(is_history(WORDS, ("a", 0, 0)), False)
        self.assertIs(is_history(WORDS, (["a", 0, 0],)), False)

    def test_letters_of_other_words_and_numbers(self):
        for word in NO_WORDS:
            self.assertIs(is_history(WORDS, ((word, 0, 1),)), False)
        for number in NO_NUMBERS:
            self.assertIs(is_history(WORDS, (("a", 0, 0), ("join", 0, number))), False)
            self.assertIs(is_history(WORDS, (("zz", number, 0),)), False)

    def test_letters_that_the_joins_ahead_make_ones_or_none(self):
        ahead = (("join", 2, 5),)
        self.assertIs(is_history(WORDS, (("join", 4, 5),)), True)
        self.assertIs(is_history(WORDS, ahead + (("join", 4, 5),)), False)
        self.assertIs(is_history(WORDS, ahead + (("join", 2, 4),)), True)
        self.assertIs(is_history(WORDS, ahead + ahead), False)
        self.assertIs(is_history(WORDS, ahead + (("join", 2, 4), ("join", 4, 7))), False)
        self.assertIs(is_history(WORDS, ahead + (("join", 2, 4), ("join", 2, 7))), True)
        self.assertIs(is_history(WORDS, ahead + (("join", 0, 2), ("join", 2, 7))), False)
        self.assertIs(is_history(WORDS, ahead + (("join", 0, 2), ("join", 0, 7))), True)
        self.assertIs(is_history(WORDS, (("join", 4, 5),) + ahead), False)

    def test_each_history_has_a_world_of_its_own(self):
        self.assertIs(is_history(WORDS, (("join", 0, 1),)), True)
        self.assertIs(is_history(WORDS, (("join", 0, 1),)), True)

    def test_two_hundred_letters(self):
        joins = tuple(("join", 0, at + 1) for at in range(200))
        self.assertIs(is_history(WORDS, joins), True)
        self.assertIs(is_history(WORDS, joins[:199] + (("join", 0, 50),)), False)
        downward = tuple(("join", 199 - at, 200 - at) for at in range(200))
        self.assertIs(is_history(WORDS, downward), True)
        self.assertIs(is_history(WORDS, downward[:199] + (("join", 1, 300),)), True)
        self.assertIs(is_history(WORDS, downward[:199] + (("join", 2, 300),)), False)
        self.assertIs(is_history(WORDS, (("a", 3, 3),) * 199 + (("c", 3, 3),)), False)

    def test_arguments_by_their_names(self):
        self.assertIs(is_history(words=WORDS, thing=(("a", 0, 0),)), True)

    def test_what_is_handed_in_stays_as_it_was(self):
        thing = [["a", 0, [0]], {"a": [1]}]
        is_letter(WORDS, thing)
        is_history(WORDS, thing)
        is_history(WORDS, (tuple(thing[0]), thing[1]))
        self.assertEqual(thing, [["a", 0, [0]], {"a": [1]}])
        joins = ((9, 5), (2, 9))
        is_letter(WORDS, ("join", 0, 2), joins=joins)
        self.assertEqual(joins, ((9, 5), (2, 9)))


class Reading(unittest.TestCase):
    history = (
        ("a", 7, 2), ("zz", 3, 0), ("bring", 7, 2), ("join", 3, 7), ("a", 7, 0), ("join", 1, 3), ("a", 3, 2),
        ("join", 1, 9), ("zz", 7, 2), ("join", 0, 5), ("a", 9, 0),
    )

    def test_names_as_they_first_come(self):
        self.assertEqual(names_in(self.history), ((7, 2), (3, 0), (7, 0), (3, 2), (9, 0)))
        self.assertEqual(names_in(history=()), ())
        self.assertEqual(names_in((("join", 0, 1),)), ())

    def test_names_stay_as_they_are_behind_joins(self):
        self.assertEqual(names_in((("a", 0, 1), ("a", 4, 1), ("join", 0, 4), ("a", 4, 1))), ((0, 1), (4, 1)))

    def test_houses_as_they_first_come(self):
        self.assertEqual(houses_in(self.history), (7, 3, 1, 9, 0, 5))
        self.assertEqual(houses_in(history=()), ())
        self.assertEqual(houses_in((("join", 4, 6),)), (4, 6))
        self.assertEqual(houses_in((("a", 6, 4), ("join", 4, 6))), (6, 4))

    def test_seats_are_no_houses(self):
        self.assertEqual(houses_in((("a", 6, 4),)), (6,))

    def test_tuples_are_told(self):
        self.assertIsInstance(names_in(self.history), tuple)
        self.assertIsInstance(names_in(self.history)[0], tuple)
        self.assertIsInstance(houses_in(self.history), tuple)


if __name__ == "__main__":
    unittest.main()
