"""A turn, op by op, as the end that two honest hosts say."""

import unittest

from tests.helper import Script, close, new


def end_of(turns, program, first):
    script = Script(new(turns=turns, program=program, first=first)).all_heard(2)
    told = script.do(close())
    assert told[0] == 2 and told[1] == len(told) - 2, told
    return tuple(told[2:])


class Ops(unittest.TestCase):

    def check(self, order, first, numbers, place=0):
        self.assertEqual(end_of(1, order, first), (0,) + numbers)
        # With other orders behind it, the same, and on to the place told.
        self.assertEqual(end_of(1, order + (7, 0, 0, 0) * 2, first), (place or 1,) + numbers)

    def test_0_together(self):
        self.check((0, 0, 1, 2), (5, 20, 300), (320, 20, 300))
        self.check((0, 2, 0, 1), (600, 400, 3), (600, 400, 0))
        self.check((0, 1, 0, 0), (999, 1), (999, 998))
        self.check((0, 0, 0, 0), (7,), (14,))

    def test_1_less(self):
        self.check((1, 0, 1, 2), (5, 300, 20), (280, 300, 20))
        self.check((1, 0, 1, 2), (5, 20, 300), (720, 20, 300))
        self.check((1, 2, 1, 1), (5, 20, 300), (5, 20, 0))
        self.check((1, 0, 0, 1), (999, 0), (999, 0))
        self.check((1, 0, 0, 1), (0, 999), (1, 999))

    def test_2_times(self):
        self.check((2, 0, 1, 2), (5, 20, 30), (600, 20, 30))
        self.check((2, 2, 0, 1), (999, 999, 3), (999, 999, 1))
        self.check((2, 0, 0, 0), (31,), (961,))

    def test_3_the_number_told(self):
        self.check((3, 1, 999, 5), (1, 2, 3), (1, 999, 3))
        self.check((3, 0, 0, 0), (9,), (0,))
        self.check((3, 2, 1, 0), (7, 8, 9), (7, 8, 1))

    def test_4_change_places(self):
        self.check((4, 0, 2, 1), (1, 2, 3), (3, 2, 1))
        self.check((4, 2, 1, 0), (1, 2, 3), (1, 3, 2))
        self.check((4, 1, 1, 0), (1, 2, 3), (1, 2, 3))
        self.check((4, 1, 4, 0), (1, 2, 3), (1, 2, 3))

    def test_5_goes_on_at_z_if_0(self):
        self.check((5, 1, 0, 2), (1, 0, 3), (1, 0, 3), place=2)
        self.check((5, 0, 1, 2), (1, 0, 3), (1, 0, 3))
        self.check((5, 2, 0, 2), (0, 0, 999), (0, 0, 999))

    def test_6_goes_on_at_z_if_less(self):
        self.check((6, 0, 1, 2), (4, 5), (4, 5), place=2)
        self.check((6, 0, 1, 2), (5, 5), (5, 5))
        self.check((6, 0, 1, 2), (6, 5), (6, 5))
        self.check((6, 1, 0, 2), (6, 5), (6, 5), place=2)

    def test_7_nothing(self):
        self.check((7, 0, 1, 2), (0, 1, 2, 3, 4, 5), (0, 1, 2, 3, 4, 5))
        self.check((7, 0, 0, 2), (0,), (0,))

    def test_numbers_beyond_how_many_there_are(self):
        self.check((0, 3, 4, 5), (5, 20, 300), (320, 20, 300))
        self.check((0, 999, 997, 998), (5, 20, 300), (320, 20, 300))
        self.check((1, 5, 6, 7), (5, 20, 300), (5, 20, 985))
        self.check((2, 9, 10, 11), (5, 2, 30), (60, 2, 30))
        self.check((3, 4, 777, 0), (5, 20, 300), (5, 777, 300))
        self.check((4, 3, 5, 0), (1, 2, 3), (3, 2, 1))
        self.check((5, 4, 0, 2), (1, 0, 3), (1, 0, 3), place=2)
        self.check((6, 2, 3, 2), (4, 5), (4, 5), place=2)
        self.check((0, 999, 999, 999), (400,), (800,))

    def test_places_beyond_how_many_there_are(self):
        nothing = (7, 0, 0, 0)
        for z in (0, 1, 2, 3, 4, 5, 998, 999):
            self.assertEqual(end_of(1, (5, 0, 0, z) + nothing * 2, (0,)), (z % 3, 0))
            self.assertEqual(end_of(1, (6, 0, 1, z) + nothing * 2, (0, 1)), (z % 3, 0, 1))

    def test_behind_the_last_one_at_0(self):
        program = (7, 0, 0, 0) * 20
        for turns, place in ((1, 1), (19, 19), (20, 0), (21, 1), (2000, 0)):
            self.assertEqual(end_of(turns, program, (1,)), (place, 1))

    def test_a_loop_with_jumps(self):
        # Number 0 is counted down by number 2; number 1 is doubled as often.
        program = (5, 0, 0, 4) + (1, 0, 0, 2) + (0, 1, 1, 1) + (5, 3, 0, 0) + (7, 0, 0, 0)
        first = (5, 3, 1, 0)
        self.assertEqual(end_of(4, program, first), (0, 4, 6, 1, 0))
        self.assertEqual(end_of(21, program, first), (4, 0, 96, 1, 0))

    def test_the_longest_run(self):
        self.assertEqual(end_of(2000, (0, 0, 0, 1), (1, 1)), (0, 1, 1))
        self.assertEqual(end_of(1999, (0, 0, 0, 1), (1, 1)), (0, 0, 1))


if __name__ == "__main__":
    unittest.main()
