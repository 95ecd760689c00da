"""The call work: one turn from any state."""

import unittest

from tests.helper import BIG, COUNTING, Script, last, new, read_truth, work

NOTHING = (7, 0, 0, 0)


def worked(program, state):
    """The state one turn behind this one."""
    told = last(new(program=program, first=(1,) * (len(state) - 1)), work(state))
    assert told[:2] == [0, len(told) - 2], told
    return tuple(told[2:])


class Ops(unittest.TestCase):

    def check(self, order, numbers, behind, place=None):
        """The order at the first place, in the middle and at the last one; place: where it goes on else."""
        for orders in (1, 3, 20):
            for at in sorted({0, orders // 2, orders - 1}):
                program = NOTHING * at + order + NOTHING * (orders - at - 1)
                goes_on = at + 1 if place is None else place
                self.assertEqual(worked(program, (at,) + numbers), (goes_on % orders,) + behind)

    def test_0_together(self):
        self.check((0, 0, 1, 2), (5, 20, 300), (320, 20, 300))
        self.check((0, 2, 0, 1), (600, 400, 3), (600, 400, 0))
        self.check((0, 1, 0, 0), (999, 1), (999, 998))
        self.check((0, 5, 0, 1), (999, 999, 0, 0, 0, 0), (999, 999, 0, 0, 0, 998))
        self.check((0, 0, 0, 0), (0,), (0,))

    def test_1_less(self):
        self.check((1, 0, 1, 2), (5, 300, 20), (280, 300, 20))
        self.check((1, 0, 1, 2), (5, 20, 300), (720, 20, 300))
        self.check((1, 2, 1, 1), (5, 20, 300), (5, 20, 0))
        self.check((1, 0, 0, 1), (999, 0), (999, 0))
        self.check((1, 0, 0, 1), (0, 999), (1, 999))

    def test_2_times(self):
        self.check((2, 0, 1, 2), (5, 20, 30), (600, 20, 30))
        self.check((2, 2, 0, 1), (999, 999, 3), (999, 999, 1))
        self.check((2, 0, 0, 1), (999, 0), (0, 0))

    def test_3_the_number_told(self):
        self.check((3, 1, 999, 5), (1, 2, 3), (1, 999, 3))
        self.check((3, 0, 0, 0), (9,), (0,))

    def test_4_change_places(self):
        self.check((4, 0, 2, 1), (1, 2, 3), (3, 2, 1))
        self.check((4, 2, 1, 0), (1, 2, 3), (1, 3, 2))
        self.check((4, 1, 1, 0), (1, 2, 3), (1, 2, 3))

    def test_5_goes_on_at_z_if_0(self):
        for z in (0, 1, 2, 19, 20, 21, 999):
            self.check((5, 1, 0, z), (1, 0, 3), (1, 0, 3), place=z)
            self.check((5, 0, 1, z), (1, 0, 3), (1, 0, 3))

    def test_6_goes_on_at_z_if_less(self):
        for z in (0, 1, 2, 19, 20, 21, 999):
            self.check((6, 0, 1, z), (4, 5), (4, 5), place=z)
            self.check((6, 0, 1, z), (5, 5), (5, 5))
            self.check((6, 0, 1, z), (6, 5), (6, 5))
            self.check((6, 1, 0, z), (6, 5), (6, 5), place=z)

    def test_7_nothing(self):
        self.check((7, 0, 1, 2), (0, 1, 2, 3, 4, 5), (0, 1, 2, 3, 4, 5))
        self.check((7, 999, 999, 999), (0,), (0,))

    def test_numbers_beyond_how_many_there_are(self):
        self.check((0, 3, 4, 5), (5, 20, 300), (320, 20, 300))
        self.check((0, 999, 997, 998), (5, 20, 300), (320, 20, 300))
        self.check((1, 5, 6, 7), (5, 20, 300), (5, 20, 985))
        self.check((2, 9, 10, 11), (5, 2, 30), (60, 2, 30))
        self.check((3, 4, 777, 0), (5, 20, 300), (5, 777, 300))
        self.check((4, 3, 5, 0), (1, 2, 3), (3, 2, 1))
        self.check((4, 1, 4, 0), (1, 2, 3), (1, 2, 3))
        self.check((5, 4, 0, 2), (1, 0, 3), (1, 0, 3), place=2)
        self.check((6, 2, 3, 2), (4, 5), (4, 5), place=2)


class States(unittest.TestCase):

    def test_turn_by_turn_it_is_the_run(self):
        program = (5, 0, 0, 4) + (1, 0, 0, 2) + (0, 1, 1, 1) + (5, 3, 0, 0) + (7, 0, 0, 0)
        script = Script(new(turns=30, program=program, first=(5, 3, 1, 0)))
        state = (0, 5, 3, 1, 0)
        for turn in range(31):
            self.assertEqual(script.sees(read_truth(turn)), [turn, 5, *state])
            state = tuple(script.sees(work(state))[2:])

    def test_it_need_not_be_one_of_the_runs_states(self):
        self.assertEqual(last(new(), work((0, 999, 2))), [0, 3, 0, 1, 2])
        self.assertEqual(last(new(), work((0, 0, 0))), [0, 3, 0, 0, 0])

    def test_the_run_stays_as_it_is(self):
        script = Script(new(), work((0, 999, 2)), work((0, 7, 7)))
        self.assertEqual([script.sees(read_truth(turn)) for turn in (0, 1, 8)],
                         [[0, 3, 0, 1, 1], [1, 3, 0, 2, 1], [8, 3, 0, 9, 1]])

    def test_of_the_affair_that_there_is(self):
        script = Script(new(), new(program=COUNTING * 2, first=(1,)))
        self.assertEqual(script.sees(work((1, 6))), [0, 2, 0, 12])
        self.assertEqual(script.sees(work((0, 1, 1))), [-1])

    def test_rows_that_are_empty_too_short_or_too_long(self):
        for count in (1, 2, 6):
            script = Script(new(first=(1,) * count))
            self.assertEqual(script.sees(work((0,) * (count + 1)))[:2], [0, count + 1])
            for length in [length for length in range(21) if length != count + 1]:
                self.assertEqual(script.sees(work((0,) * length)), [-1])

    def test_rows_not_as_told(self):
        script = Script(new(program=NOTHING * 3, first=(1, 1)))
        for place in (0, 1, 2):
            self.assertEqual(script.sees(work((place, 0, 999))), [0, 3, (place + 1) % 3, 0, 999])
        wrong = [(place, 1, 1) for place in (-1, 3, 999, BIG, -BIG)]
        wrong += [(0, number, 1) for number in (-1, 1000, BIG, -BIG)]
        wrong += [(0, 1, number) for number in (-1, 1000, BIG, -BIG)]
        for state in wrong:
            self.assertEqual(script.sees(work(state)), [-1], state)


if __name__ == "__main__":
    unittest.main()
