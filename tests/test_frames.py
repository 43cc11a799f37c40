"""Points 7 to 9: frames, cases, and what there is at them."""

import unittest

from makers import FRAMES, slow_houses, slow_lines, slow_things
from strangeseats.frames import beneath, cases, join_cases, things


class Cases(unittest.TestCase):
    def test_there_are_thirteen_frames(self):
        self.assertEqual(len(set(FRAMES)), 13)

    def test_cases_of_words(self):
        self.assertEqual(cases(()), ((-1, -1),))
        self.assertEqual(cases((0,)), ((-1, -1), (0, -1)))
        self.assertEqual(cases((2,)), ((-1, -1), (0, -1), (0, 0), (0, 1)))
        self.assertEqual(cases(frame=(0, 1)), ((-1, -1), (0, -1), (1, -1), (1, 0)))
        self.assertEqual(cases((2, 2)), ((-1, -1), (0, -1), (0, 0), (0, 1), (1, -1), (1, 0), (1, 1)))

    def test_cases_of_joins(self):
        self.assertEqual(join_cases(()), ((-1, -1),))
        self.assertEqual(join_cases((1,)), ((-1, -1), (-1, 0)))
        self.assertEqual(join_cases(frame=(0, 2)), ((-1, -1), (-1, 0), (-1, 1), (0, 1)))

    def test_all_frames(self):
        for frame in FRAMES:
            lines = slow_lines(("a",), frame)
            self.assertEqual(cases(frame), tuple(case for word, case in lines if word == "a"))
            self.assertEqual(join_cases(frame), tuple(case for word, case in lines if word == "join"))
            self.assertEqual(cases(frame), tuple(sorted(set(cases(frame)))))
            self.assertEqual(join_cases(frame), tuple(sorted(set(join_cases(frame)))))


class Things(unittest.TestCase):
    def test_at_words(self):
        self.assertEqual(things((), (-1, -1)), ((-1,), (-1, -1)))
        self.assertEqual(things((2,), (0, 1)), ((0,), (0, 0), (0, 1)))
        self.assertEqual(things((2,), (0, -1)), ((0,), (0, -1), (0, 0), (0, 1)))
        self.assertEqual(things((0, 1), (-1, -1)), ((-1,), (-1, -1), (0,), (1,), (1, 0)))
        self.assertEqual(things(frame=(0, 1), case=(0, -1), join=False), ((0,), (0, -1), (1,), (1, 0)))

    def test_at_joins(self):
        self.assertEqual(things((), (-1, -1), join=True), ((-1,),))
        self.assertEqual(things((1,), (-1, -1), join=True), ((-1,), (0,), (0, 0)))
        self.assertEqual(things((1, 2), (-1, 0), join=True), ((0,), (0, 0), (1,), (1, 0), (1, 1)))
        self.assertEqual(things((1, 2), (-1, 1), join=True), ((0,), (0, 0), (1,), (1, 0), (1, 1)))
        self.assertEqual(things(frame=(1, 2), case=(0, 1), join=True), ((0,), (0, 0), (1, 0), (1, 1)))
        self.assertEqual(things((0, 0), (0, 1), join=True), ((0,),))

    def test_a_seat_pocket_and_a_join_of_like_numbers_are_not_the_same_case(self):
        self.assertEqual(things((2, 2), (0, 1)), ((0,), (0, 0), (0, 1), (1,), (1, 0), (1, 1)))
        self.assertEqual(things((2, 2), (0, 1), join=True), ((0,), (0, 0), (0, 1), (1, 0), (1, 1)))
        self.assertEqual(beneath((2, 2), (0, 1), (1, 0)), (1,))
        self.assertEqual(beneath((2, 2), (0, 1), (1, 0), join=True), (0,))

    def test_join_is_handed_in_by_its_name_alone(self):
        self.assertRaises(TypeError, things, (), (-1, -1), True)
        self.assertRaises(TypeError, beneath, (1,), (-1, 0), (0, 0), True)

    def test_all_things_of_all_frames_and_what_each_is_beneath(self):
        for frame in FRAMES:
            for word, case in slow_lines(("a",), frame):
                join = word == "join"
                told = things(frame, case, join=join)
                self.assertIsInstance(told, tuple)
                self.assertEqual(told, tuple(slow_things(frame, (word, case))))
                for house, seats in slow_houses(frame, (word, case)).items():
                    self.assertIn(house, told)
                    for thing in seats:
                        self.assertEqual(beneath(frame, case, thing, join=join), house)

    def test_what_each_is_beneath(self):
        self.assertEqual(beneath((1, 2), (-1, -1), (-1, -1)), (-1,))
        self.assertEqual(beneath((1, 2), (1, -1), (1, -1)), (1,))
        self.assertEqual(beneath(frame=(1, 2), case=(0, -1), thing=(0, -1), join=False), (0,))
        self.assertEqual(beneath((1, 2), (-1, 1), (1, 1), join=True), (1,))
        self.assertEqual(beneath((1, 2), (0, 1), (0, 0), join=True), (0,))
        self.assertEqual(beneath((1, 2), (0, 1), (1, 1), join=True), (0,))

    def test_tuples_are_told_anew(self):
        frame = (2, 1)
        self.assertEqual(things(frame, (0, 1), join=True), things(frame, (0, 1), join=True))
        self.assertEqual(things(frame, (0, 1)), things(frame, (0, 1)))
        self.assertEqual(frame, (2, 1))
        for told in (cases(frame), join_cases(frame), things(frame, (0, 1)), beneath(frame, (0, 1), (1, 0))):
            self.assertIs(type(told), tuple)
        for told in cases(frame) + join_cases(frame) + things(frame, (-1, -1)):
            self.assertIs(type(told), tuple)
            self.assertTrue(all(type(part) is int for part in told))


if __name__ == "__main__":
    unittest.main()
