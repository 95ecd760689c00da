"""The calls lie, mute and honest, and what a host says."""

import unittest

from tests.helper import BIG, Script, ask, close, counting_state, deliver, honest, hush, last, lie, mute, new, say


def end_said_by_0(*tellings):
    """What host 0 says for turn 8, where the other host is put out; None if nothing."""
    script = Script(new(k=0), *tellings, mute(1, 8))
    word = script.do(say(0, 1))[0]
    script.do(deliver(word))
    script.do(hush(0, 1))
    word = script.do(say(0, 0))[0]
    if script.do(deliver(word)) == [0]:
        return None
    script.do(deliver(word + 1))
    told = script.do(close())
    assert told[0] == 1, told
    return tuple(told[2:])


class Counts(unittest.TestCase):

    def test_what_is_told_again_counts_again(self):
        self.assertEqual(
            ask(new(), lie(0, 3, (0, 1, 1)), lie(0, 3, (0, 1, 1)), mute(0, 3), mute(0, 4), lie(0, 4, (0, 2, 2)))[1:],
            [[1], [2], [3], [4], [5]])

    def test_each_host_by_itself(self):
        self.assertEqual(ask(new(n=3), mute(0, 3), mute(1, 3), mute(0, 4), lie(2, 3, (0, 1, 1)))[1:],
                         [[1], [1], [2], [1]])

    def test_honest_takes_back_all_of_that_turn(self):
        self.assertEqual(
            ask(new(), mute(0, 3), lie(0, 3, (0, 1, 1)), mute(0, 4), honest(0, 3), honest(0, 3), mute(0, 3),
                honest(0, 4), honest(0, 3))[1:],
            [[1], [2], [3], [1], [1], [2], [1], [0]])

    def test_honest_counts_what_a_later_telling_hides(self):
        self.assertEqual(last(new(), mute(0, 3), mute(0, 3), mute(0, 3), mute(0, 4), honest(0, 4)), [3])

    def test_honest_of_a_turn_that_nothing_was_told_of(self):
        self.assertEqual(ask(new(), honest(1, 0), mute(0, 0), honest(1, 8), honest(0, 8))[1:], [[0], [1], [0], [1]])

    def test_a_host_that_is_out_can_be_told(self):
        script = Script(new(k=0), mute(0, 8), say(0, 0), deliver(0), hush(0, 0))
        self.assertTrue(script.is_out(0))
        self.assertEqual(script.do(lie(0, 8, (0, 1, 1))), [2])
        self.assertEqual(script.do(mute(0, 7)), [3])
        self.assertEqual(script.do(honest(0, 8)), [1])

    def test_when_the_end_is_found_too(self):
        script = Script(new()).all_heard(2)
        script.do(close())
        self.assertEqual(script.do(lie(0, 8, (0, 1, 1))), [1])
        self.assertEqual(script.do(mute(0, 8)), [2])
        self.assertEqual(script.do(honest(0, 8)), [0])


class Says(unittest.TestCase):

    def test_the_runs_state_if_nothing_was_told(self):
        self.assertEqual(end_said_by_0(), counting_state(8))

    def test_tellings_of_other_turns_and_hosts_do_not_count(self):
        self.assertEqual(end_said_by_0(lie(0, 7, (0, 5, 5)), mute(0, 0), lie(1, 8, (0, 6, 6))), counting_state(8))

    def test_the_state_told(self):
        self.assertEqual(end_said_by_0(lie(0, 8, (0, 5, 5))), (0, 5, 5))

    def test_silence(self):
        self.assertIsNone(end_said_by_0(mute(0, 8)))

    def test_what_was_told_last(self):
        first = lie(0, 8, (0, 5, 5))
        second = lie(0, 8, (0, 6, 6))
        self.assertEqual(end_said_by_0(first, second), (0, 6, 6))
        self.assertEqual(end_said_by_0(second, first), (0, 5, 5))
        self.assertIsNone(end_said_by_0(first, mute(0, 8)))
        self.assertEqual(end_said_by_0(mute(0, 8), first), (0, 5, 5))

    def test_honesty(self):
        first = lie(0, 8, (0, 5, 5))
        self.assertEqual(end_said_by_0(first, honest(0, 8)), counting_state(8))
        self.assertEqual(end_said_by_0(mute(0, 8), first, mute(0, 8), honest(0, 8)), counting_state(8))
        self.assertEqual(end_said_by_0(first, honest(0, 8), lie(0, 8, (0, 6, 6))), (0, 6, 6))
        self.assertEqual(end_said_by_0(first, honest(0, 7)), (0, 5, 5))
        self.assertEqual(end_said_by_0(first, honest(1, 8)), (0, 5, 5))

    def test_a_state_told_has_a_place_of_its_own(self):
        program = (7, 0, 0, 0) * 3
        script = Script(new(program=program), lie(0, 8, (2, 1, 1)), lie(1, 8, (2, 1, 1))).all_heard(2)
        self.assertEqual(script.do(close()), [2, 3, 2, 1, 1])

    def test_as_it_is_told_when_the_question_comes(self):
        script = Script(new(), say(0, 0), lie(0, 8, (0, 5, 5)), deliver(0), lie(0, 8, (0, 6, 6)), deliver(1),
                        lie(1, 8, (0, 5, 5)), say(0, 1), deliver(2), deliver(3))
        self.assertEqual(script.do(close()), [2, 3, 0, 5, 5])


class Refusals(unittest.TestCase):

    def test_hosts_that_there_are_not(self):
        for n in (2, 6):
            for host in (-1, n, BIG, -BIG):
                for call in (lie(host, 0, (0, 1, 1)), mute(host, 0), honest(host, 0)):
                    self.assertEqual(last(new(n=n), call), [-1])

    def test_turns_out_of_range(self):
        for turns in (1, 8, 2000):
            for turn in (0, turns):
                calls = (new(turns=turns), lie(0, turn, (0, 1, 1)), mute(0, turn), honest(0, turn))
                self.assertEqual(ask(*calls)[1:], [[1], [2], [0]])
            for turn in (-1, turns + 1, BIG, -BIG):
                for call in (lie(0, turn, (0, 1, 1)), mute(0, turn), honest(0, turn)):
                    self.assertEqual(last(new(turns=turns), call), [-1])

    def test_states_as_told(self):
        for orders in (1, 3, 20):
            for count in (1, 2, 6):
                begin = new(program=(7, 0, 0, 0) * orders, first=(1,) * count)
                for state in ((0,) + (0,) * count, (orders - 1,) + (999,) * count):
                    self.assertEqual(last(begin, lie(0, 1, state)), [1])

    def test_states_not_as_told(self):
        begin = new(program=(7, 0, 0, 0) * 3, first=(1, 1))
        wrong = [(), (0,), (0, 1), (0, 1, 1, 1), (0,) * 20]
        wrong += [(place, 1, 1) for place in (-1, 3, BIG, -BIG)]
        wrong += [(0, number, 1) for number in (-1, 1000, BIG, -BIG)]
        wrong += [(0, 1, number) for number in (-1, 1000, BIG, -BIG)]
        for state in wrong:
            self.assertEqual(last(begin, lie(0, 1, state)), [-1], state)

    def test_a_refusal_changes_nothing(self):
        begin = (new(), mute(0, 3))
        for refused in (lie(0, 3, (0, 1)), lie(0, 9, (0, 1, 1)), lie(2, 3, (0, 1, 1)), mute(2, 3), mute(0, 9),
                        honest(2, 3), honest(0, -1)):
            self.assertEqual(ask(*begin, refused, mute(0, 4), mute(1, 3))[2:], [[-1], [2], [1]])

    def test_a_refused_lie_is_not_said(self):
        self.assertEqual(end_said_by_0(lie(0, 8, (0, 1000, 1)), lie(0, 8, (1, 1, 1))), counting_state(8))


if __name__ == "__main__":
    unittest.main()
