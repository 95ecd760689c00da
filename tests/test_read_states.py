"""The calls truth, heard and says."""

import unittest

from tests.helper import (BIG, LIE, OTHER_LIE, Script, close, counting_state, deliver, double, honest, hush,
                          in_dispute, last, lie, mute, new, pair, read_heard, read_says, read_truth, say)

OUTSIDE = (-1, BIG, -BIG)


def told(turn, state):
    return [turn, len(state), *state]


def long_state(turn):
    """The example's state behind so many turns, where number 0 has passed 1000."""
    return (0, (1 + turn) % 1000, 1)


class Truth(unittest.TestCase):

    def test_the_first_turns_and_the_last(self):
        for turns in (1, 2, 8, 999, 1000, 2000):
            script = Script(new(turns=turns))
            for turn in (0, 1, turns - 1, turns):
                self.assertEqual(script.sees(read_truth(turn)), told(turn, long_state(turn)))

    def test_just_outside(self):
        for turns in (1, 8, 2000):
            for turn in (turns + 1, *OUTSIDE):
                self.assertEqual(last(new(turns=turns), read_truth(turn)), [-1])

    def test_later_turns_before_earlier_ones(self):
        script = Script(new())
        for turn in (8, 3, 0, 5, 8):
            self.assertEqual(script.do(read_truth(turn)), told(turn, counting_state(turn)))

    def test_a_place_of_its_own(self):
        script = Script(new(program=(5, 0, 0, 2) + (7, 0, 0, 0) + (3, 0, 4, 0), first=(0,), turns=5))
        self.assertEqual([script.sees(read_truth(turn)) for turn in range(6)],
                         [[0, 2, 0, 0], [1, 2, 2, 0], [2, 2, 0, 4], [3, 2, 1, 4], [4, 2, 2, 4], [5, 2, 0, 4]])

    def test_what_hosts_say_does_not_count(self):
        script = Script(new(), *[lie(host, 8, LIE) for host in (0, 1)]).all_heard(2)
        self.assertEqual(script.do(close()), [2, 3, 0, 500, 500])
        self.assertEqual(script.sees(read_truth(8)), [8, 3, 0, 9, 1])

    def test_of_the_affair_that_there_is(self):
        script = Script(new(), read_truth(8), new(turns=5, program=(3, 0, 7, 0), first=(1, 2, 3)))
        self.assertEqual(script.sees(read_truth(5)), [5, 4, 0, 7, 2, 3])
        self.assertEqual(script.sees(read_truth(0)), [0, 4, 0, 1, 2, 3])
        self.assertEqual(script.sees(read_truth(8)), [-1])


class Says(unittest.TestCase):

    def test_the_runs_state_if_nothing_was_told(self):
        for turns in (1, 8, 2000):
            script = Script(new(turns=turns))
            for turn in (0, 1, turns - 1, turns):
                for host in (0, 1):
                    self.assertEqual(script.sees(read_says(host, turn)), told(turn, long_state(turn)))

    def test_a_state_silence_and_honesty_at_the_first_and_last_turns(self):
        for turns in (2, 8, 2000):
            for turn in sorted({0, 1, turns - 1, turns}):
                script = Script(new(turns=turns, n=3), lie(1, turn, LIE))
                self.assertEqual(script.sees(read_says(1, turn)), told(turn, LIE))
                self.assertEqual(script.sees(read_says(0, turn)), told(turn, long_state(turn)))
                self.assertEqual(script.sees(read_says(2, turn)), told(turn, long_state(turn)))
                script.do(mute(1, turn))
                self.assertEqual(script.sees(read_says(1, turn)), [-6])
                self.assertEqual(script.sees(read_says(2, turn)), told(turn, long_state(turn)))
                script.do(honest(1, turn))
                self.assertEqual(script.sees(read_says(1, turn)), told(turn, long_state(turn)))

    def test_a_lie_of_the_turn_0(self):
        script = Script(new(), lie(0, 0, LIE))
        self.assertEqual([script.sees(read_says(0, turn)) for turn in (0, 1)], [[0, 3, 0, 500, 500], [1, 3, 0, 2, 1]])
        self.assertEqual(script.sees(read_truth(0)), [0, 3, 0, 1, 1])

    def test_several_of_one_turn(self):
        script = Script(new())
        seen = []
        for call in (lie(0, 4, LIE), lie(0, 4, OTHER_LIE), mute(0, 4), mute(0, 4), lie(0, 4, LIE), honest(0, 4),
                     mute(0, 4), honest(0, 4), honest(0, 4), lie(0, 4, OTHER_LIE)):
            script.do(call)
            seen.append(script.sees(read_says(0, 4)))
        so, lied, other = told(4, counting_state(4)), told(4, LIE), told(4, OTHER_LIE)
        self.assertEqual(seen, [lied, other, [-6], [-6], lied, so, [-6], so, so, other])

    def test_tellings_of_other_turns_do_not_count(self):
        script = Script(new(), mute(0, 3), lie(0, 5, LIE), honest(0, 5), mute(0, 5))
        self.assertEqual(script.sees(read_says(0, 4)), told(4, counting_state(4)))

    def test_a_refused_telling_is_not_said(self):
        script = Script(new(), lie(0, 4, (0, 1000, 1)), lie(0, 4, (1, 1, 1)), lie(0, 4, (0, 1)), lie(0, 4, ()))
        self.assertEqual(script.sees(read_says(0, 4)), told(4, counting_state(4)))

    def test_a_host_that_is_out_says_something_too(self):
        script = Script(new(k=0), mute(0, 8), say(0, 0), deliver(0), hush(0, 0))
        self.assertTrue(script.is_out(0))
        self.assertEqual(script.sees(read_says(0, 8)), [-6])
        self.assertEqual(script.sees(read_says(0, 7)), told(7, counting_state(7)))
        script.do(lie(0, 8, LIE))
        self.assertEqual(script.sees(read_says(0, 8)), told(8, LIE))

    def test_what_was_told_is_gone_with_the_affair(self):
        script = Script(new(), lie(0, 4, LIE), mute(1, 4), new())
        self.assertEqual([script.sees(read_says(host, 4)) for host in (0, 1)], [told(4, counting_state(4))] * 2)

    def test_no_such_host_and_turns_just_outside(self):
        for turns, n in ((1, 2), (8, 6), (2000, 3)):
            script = Script(new(turns=turns, n=n), mute(0, turns))
            for turn in (turns + 1, *OUTSIDE):
                self.assertEqual(script.sees(read_says(0, turn)), [-1])
            for host in (n, *OUTSIDE):
                self.assertEqual(script.sees(read_says(host, 0)), [-1])
                self.assertEqual(script.sees(read_says(host, turns + 1)), [-1])


class Heard(unittest.TestCase):

    def test_nothing_before_an_answer_comes(self):
        script = Script(new())
        self.assertEqual(script.sees(read_heard(0, 8)), [-6])
        script.do(say(0, 0))
        self.assertEqual(script.sees(read_heard(0, 8)), [-6])
        script.do(deliver(0))
        self.assertEqual(script.sees(read_heard(0, 8)), [-6])
        script.do(deliver(1))
        self.assertEqual(script.sees(read_heard(0, 8)), [8, 3, 0, 9, 1])
        self.assertEqual(script.sees(read_heard(1, 8)), [-6])
        for turn in range(8):
            self.assertEqual(script.sees(read_heard(0, turn)), [-6])

    def test_in_a_dispute(self):
        script = in_dispute()
        script.do(lie(1, 4, OTHER_LIE))
        script.hears(1, 1)
        self.assertEqual(script.sees(read_heard(1, 4)), [4, 3, 0, 600, 600])
        self.assertEqual(script.sees(read_heard(0, 4)), [-6])
        self.assertEqual(script.sees(read_heard(0, 8)), [8, 3, 0, 500, 500])

    def test_with_one_turn_and_with_the_most(self):
        for turns in (1, 2000):
            script = Script(new(turns=turns)).all_heard(2)
            self.assertEqual(script.sees(read_heard(1, turns)), told(turns, long_state(turns)))
            self.assertEqual(script.sees(read_heard(1, 0)), [-6])

    def test_what_it_says_later_is_not_heard(self):
        script = Script(new(), say(0, 0), deliver(0), lie(0, 8, LIE), deliver(1), mute(0, 8))
        self.assertEqual(script.sees(read_heard(0, 8)), [8, 3, 0, 9, 1])

    def test_what_was_heard_first_stays(self):
        script = Script(new(), say(0, 0), double(0), deliver(0), deliver(2), lie(0, 8, LIE), deliver(1), deliver(3))
        self.assertTrue(script.is_out(0))
        self.assertEqual(script.sees(read_heard(0, 8)), [8, 3, 0, 9, 1])

    def test_of_a_host_that_is_out_nothing_is_kept(self):
        # Host 0 goes out by another word for turn 8; its answer for turn 4 comes afterwards.
        script = Script(new(n=3), lie(0, 8, LIE), say(0, 0), double(0), say(0, 1), deliver(0), deliver(2),
                        deliver(3), deliver(4), pair(0, 1), say(1, 0), deliver(5), honest(0, 8), deliver(1), deliver(7))
        self.assertTrue(script.is_out(0))
        self.assertEqual(script.do(deliver(6)), [0])
        self.assertEqual(script.sees(read_heard(0, 4)), [-6])
        self.assertEqual(script.sees(read_heard(0, 8)), told(8, LIE))

    def test_when_the_end_is_found_nothing_is_kept(self):
        script = in_dispute(n=2, k=0)
        late = script.do(say(1, 1))[0]
        script.do(mute(0, 4))
        script.do(deliver(script.do(say(1, 0))[0]))
        self.assertEqual(script.do(hush(1, 0)), [0])
        self.assertEqual(script.do(close()), [1, 3, 0, 9, 1])
        script.do(deliver(late))
        self.assertEqual(script.do(deliver(late + 2)), [0])
        self.assertEqual(script.sees(read_heard(1, 4)), [-6])
        self.assertEqual(script.sees(read_heard(1, 8)), [8, 3, 0, 9, 1])

    def test_it_is_gone_with_the_affair(self):
        script = Script(new()).all_heard(2)
        script.do(new())
        self.assertEqual([script.sees(read_heard(host, 8)) for host in (0, 1)], [[-6], [-6]])

    def test_no_such_host_and_turns_just_outside(self):
        for turns, n in ((1, 2), (8, 6), (2000, 3)):
            script = Script(new(turns=turns, n=n)).all_heard(n)
            # Nothing was heard there either: that is told later.
            for turn in (turns + 1, *OUTSIDE):
                self.assertEqual(script.sees(read_heard(0, turn)), [-1])
            for host in (n, *OUTSIDE):
                self.assertEqual(script.sees(read_heard(host, turns)), [-1])
                self.assertEqual(script.sees(read_heard(host, turns + 1)), [-1])


if __name__ == "__main__":
    unittest.main()
