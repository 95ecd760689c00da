"""The call pair, disputes by halving to their end, and twice."""

import unittest

from tests.helper import (BIG, LIE, OTHER_LIE, Script, close, counting_state, deliver, double, honest, hush, lie, mute,
                          new, pair, say)


def lies_from(host, turn, turns, state=LIE):
    return [lie(host, at, state) for at in range(turn, turns + 1)]


def halved(script, dispute, hosts):
    """Asks both hosts till the dispute has ended; gives back the turns asked for."""
    asked = []
    while script.is_open(dispute, hosts):
        turns = [script.hears(dispute, host) for host in hosts]
        assert turns[0] == turns[1], turns
        asked.append(turns[0])
    return asked


class Pair(unittest.TestCase):

    def test_the_new_disputes_number(self):
        script = Script(new(n=3), lie(0, 8, LIE), lie(1, 8, OTHER_LIE)).all_heard(3)
        self.assertEqual([script.do(pair(*hosts)) for hosts in ((0, 1), (2, 0), (1, 2))], [[1], [2], [3]])

    def test_no_such_host(self):
        script = Script(new(n=3))
        for host in (-1, 3, BIG, -BIG):
            self.assertEqual(script.do(pair(host, 0)), [-1])
            self.assertEqual(script.do(pair(0, host)), [-1])
            self.assertEqual(script.do(pair(host, host)), [-1])

    def test_the_end_is_found(self):
        script = Script(new(k=0, n=3), mute(0, 8), say(0, 0), deliver(0), hush(0, 0))
        script.hears(0, 1)
        script.hears(0, 2)
        script.do(close())
        for hosts in ((1, 2), (0, 1), (1, 1)):
            self.assertEqual(script.do(pair(*hosts)), [-3])
        self.assertEqual(script.do(pair(1, 3)), [-1])

    def test_a_host_is_out(self):
        script = Script(new(k=0, n=3), mute(0, 8), say(0, 0), deliver(0), hush(0, 0))
        for hosts in ((0, 1), (1, 0), (0, 0)):
            self.assertEqual(script.do(pair(*hosts)), [-10])

    def test_with_itself_or_once_more(self):
        script = Script(new(n=3), lie(0, 8, LIE))
        self.assertEqual(script.do(pair(0, 0)), [-11])
        script.all_heard(3)
        self.assertEqual(script.do(pair(0, 0)), [-11])
        self.assertEqual(script.do(pair(0, 1)), [1])
        self.assertEqual(script.do(pair(0, 1)), [-11])
        self.assertEqual(script.do(pair(1, 0)), [-11])
        self.assertEqual(script.do(pair(0, 2)), [2])

    def test_nothing_was_heard_of_the_end(self):
        script = Script(new(), lie(0, 8, LIE))
        self.assertEqual(script.do(pair(0, 1)), [-4])
        script.hears(0, 0)
        self.assertEqual(script.do(pair(0, 1)), [-4])
        self.assertEqual(script.do(pair(1, 0)), [-4])
        script.hears(0, 1)
        self.assertEqual(script.do(pair(1, 0)), [1])

    def test_they_said_the_same(self):
        script = Script(new()).all_heard(2)
        script.do(lie(0, 8, LIE))
        self.assertEqual(script.do(pair(0, 1)), [-12])
        self.assertEqual(script.do(pair(1, 0)), [-12])

    def test_states_with_other_places_are_unlike(self):
        script = Script(new(program=(7, 0, 0, 0) * 2), lie(0, 8, (1, 1, 1))).all_heard(2)
        self.assertEqual(script.do(pair(0, 1)), [1])

    def test_a_refusal_makes_no_dispute(self):
        script = Script(new(n=3), lie(0, 8, LIE)).all_heard(3)
        for hosts in ((0, 0), (1, 2), (0, 3)):
            script.do(pair(*hosts))
        self.assertEqual(script.do(say(1, 0)), [-6])
        self.assertEqual(script.do(pair(0, 1)), [1])


class Halving(unittest.TestCase):

    def test_the_turns_asked_for(self):
        for turn, asked in ((1, [4, 2, 1]), (2, [4, 2, 1]), (3, [4, 2, 3]), (4, [4, 2, 3]), (5, [4, 6, 5]),
                            (6, [4, 6, 5]), (7, [4, 6, 7]), (8, [4, 6, 7])):
            for hosts in ((0, 1), (1, 0)):
                script = Script(new(), *lies_from(0, turn, 8)).all_heard(2)
                script.do(pair(*hosts))
                self.assertEqual(halved(script, 1, hosts), asked)
                self.assertTrue(script.is_out(0))
                self.assertFalse(script.is_out(1))
                self.assertEqual(script.do(close()), [1, 3, 0, 9, 1])

    def test_every_first_wrong_turn_of_other_lengths(self):
        for turns in (1, 2, 3, 5, 7, 13):
            for turn in range(1, turns + 1):
                script = Script(new(turns=turns), *lies_from(1, turn, turns)).all_heard(2)
                script.do(pair(0, 1))
                asked = halved(script, 1, (0, 1))
                self.assertTrue(script.is_out(1))
                self.assertFalse(script.is_out(0))
                self.assertEqual(len(set(asked)), len(asked))
                self.assertTrue(set(asked) >= {turn - 1, turn} - {0, turns})

    def test_the_longest_run(self):
        script = Script(new(turns=2000), lie(0, 2000, LIE)).all_heard(2)
        script.do(pair(0, 1))
        self.assertEqual(halved(script, 1, (0, 1)),
                         [1000, 1500, 1750, 1875, 1937, 1968, 1984, 1992, 1996, 1998, 1999])
        self.assertTrue(script.is_out(0))

    def test_with_one_turn_it_ends_at_once(self):
        for hosts in ((0, 1), (1, 0)):
            for liar in (0, 1):
                script = Script(new(turns=1), lie(liar, 1, LIE)).all_heard(2)
                self.assertEqual(script.do(pair(*hosts)), [1])
                self.assertTrue(script.is_out(liar))
                self.assertFalse(script.is_out(1 - liar))
                self.assertEqual(script.do(say(1, 1 - liar)), [-3])

    def test_both_are_wrong(self):
        script = Script(new(turns=1), lie(0, 1, LIE), lie(1, 1, OTHER_LIE)).all_heard(2)
        script.do(pair(0, 1))
        self.assertTrue(script.is_out(0))
        self.assertTrue(script.is_out(1))
        self.assertEqual(script.do(close()), [-10])

    def test_both_are_wrong_by_halving(self):
        script = Script(new(n=3), *lies_from(0, 5, 8), *lies_from(1, 5, 8, OTHER_LIE)).all_heard(3)
        script.do(pair(1, 0))
        self.assertEqual(halved(script, 1, (0, 1)), [4, 6, 5])
        self.assertEqual([script.is_out(host) for host in (0, 1, 2)], [True, True, False])
        self.assertEqual(script.do(close()), [1, 3, 0, 9, 1])

    def test_worked_out_from_what_both_agreed_on(self):
        # Both say the same wrong state for turn 4; from there the one that goes on rightly stays.
        script = Script(new(turns=5), *[lie(host, 3, LIE) for host in (0, 1)],
                        *[lie(host, 4, (0, 7, 7)) for host in (0, 1)],
                        lie(0, 5, (0, 14, 7)), lie(1, 5, counting_state(5))).all_heard(2)
        script.do(pair(0, 1))
        self.assertEqual(halved(script, 1, (0, 1)), [2, 3, 4])
        self.assertTrue(script.is_out(1))
        self.assertEqual(script.do(close()), [1, 3, 0, 14, 7])

    def test_a_turn_with_a_wrong_place_is_wrong(self):
        script = Script(new(turns=1, program=(5, 0, 0, 2) + (7, 0, 0, 0) * 2, first=(0,)), lie(0, 1, (1, 0)))
        script.all_heard(2)
        script.do(pair(0, 1))
        self.assertTrue(script.is_out(0))
        self.assertFalse(script.is_out(1))

    def test_waits_till_both_were_heard(self):
        script = Script(new(), lie(0, 8, LIE)).all_heard(2)
        script.do(pair(0, 1))
        self.assertEqual(script.hears(1, 1), 4)
        self.assertEqual(script.do(say(1, 0)), [6, 4])
        self.assertEqual(script.do(say(1, 1)), [-4])
        script.do(deliver(6))
        script.do(deliver(7))
        self.assertEqual(script.do(say(1, 1)), [8, 6])

    def test_an_answer_to_an_older_question_does_not_count_for_a_newer_one(self):
        script = Script(new(), lie(0, 8, LIE)).all_heard(2)
        script.do(pair(0, 1))
        script.do(say(1, 0))
        script.do(double(4))
        script.do(deliver(4))
        script.do(deliver(6))
        script.hears(1, 1)
        self.assertEqual(script.do(deliver(5)), [1])
        self.assertEqual(script.do(deliver(9)), [0])
        self.assertEqual(script.do(say(1, 0)), [10, 6])
        self.assertEqual(script.do(say(1, 1)), [11, 6])


class Several(unittest.TestCase):

    def test_heard_counts_in_every_dispute(self):
        script = Script(new(n=3), lie(0, 8, LIE)).all_heard(3)
        script.do(pair(0, 1))
        script.do(pair(2, 0))
        script.hears(1, 0)
        self.assertEqual(script.do(say(2, 0)), [-4])
        self.assertEqual(script.hears(2, 2), 4)
        self.assertEqual(script.do(say(2, 0))[1], 6)
        self.assertEqual(script.do(say(1, 0)), [-4])
        self.assertEqual(script.do(say(1, 1))[1], 4)

    def test_one_answer_moves_all_open_disputes(self):
        script = Script(new(n=3), lie(0, 8, LIE)).all_heard(3)
        script.do(pair(0, 1))
        script.do(pair(2, 0))
        script.hears(1, 1)
        script.hears(2, 2)
        script.hears(1, 0)
        for dispute, host in ((1, 0), (1, 1), (2, 0), (2, 2)):
            self.assertEqual(script.do(say(dispute, host))[1], 6)

    def test_a_host_put_out_leaves_its_other_disputes(self):
        script = Script(new(n=4), lie(0, 8, LIE), lie(3, 8, OTHER_LIE)).all_heard(4)
        for hosts in ((0, 1), (2, 0), (0, 3), (3, 1)):
            script.do(pair(*hosts))
        halved(script, 1, (0, 1))
        self.assertEqual([script.is_out(host) for host in range(4)], [True, False, False, False])
        self.assertEqual(script.do(say(1, 1)), [-3])
        self.assertEqual(script.do(say(2, 2)), [-3])
        self.assertEqual(script.do(say(3, 3)), [-3])
        self.assertEqual(script.do(say(4, 3))[1], 4)

    def test_both_put_out_leave_their_other_disputes(self):
        script = Script(new(n=4), *lies_from(0, 5, 8), *lies_from(1, 5, 8, OTHER_LIE)).all_heard(4)
        for hosts in ((2, 0), (0, 1), (1, 3), (1, 2)):
            script.do(pair(*hosts))
        self.assertEqual(halved(script, 2, (0, 1)), [4, 6, 5])
        self.assertEqual([script.is_out(host) for host in range(4)], [True, True, False, False])
        for dispute, host in ((1, 2), (3, 3), (4, 2)):
            self.assertEqual(script.do(say(dispute, host)), [-3])
        self.assertEqual(script.do(close()), [2, 3, 0, 9, 1])

    def test_looked_at_in_the_order_of_their_numbers(self):
        # One answer ends both disputes of host 1: by the first it goes out, and the second is left,
        # so that host 2, which is as wrong as host 1, stays in.
        script = Script(new(turns=2, n=3), lie(1, 1, LIE), lie(1, 2, OTHER_LIE), lie(2, 1, OTHER_LIE),
                        lie(2, 2, LIE)).all_heard(3)
        script.do(pair(0, 1))
        script.do(pair(1, 2))
        script.hears(1, 0)
        script.hears(2, 2)
        script.hears(1, 1)
        self.assertEqual([script.is_out(host) for host in range(3)], [False, True, False])
        self.assertEqual(script.do(say(2, 2)), [-3])

    def test_a_new_dispute_is_looked_at_with_what_was_heard(self):
        script = Script(new(n=3), *lies_from(0, 5, 8), *lies_from(2, 5, 8)).all_heard(3)
        script.do(pair(0, 1))
        self.assertEqual(halved(script, 1, (0, 1)), [4, 6, 5])
        # Host 1 was heard for 4, 6 and 5 already: only host 2 is asked.
        self.assertEqual(script.do(pair(2, 1)), [2])
        self.assertEqual(script.do(say(2, 1)), [-4])
        self.assertEqual([script.hears(2, 2) for number in range(3)], [4, 6, 5])
        self.assertTrue(script.is_out(2))
        self.assertEqual(script.do(close()), [1, 3, 0, 9, 1])

    def test_a_new_dispute_may_end_at_once(self):
        script = Script(new(turns=2, n=4), lie(0, 2, LIE), lie(1, 2, OTHER_LIE)).all_heard(4)
        script.do(pair(0, 2))
        script.do(pair(1, 3))
        script.hears(1, 0)
        script.hears(2, 3)
        self.assertEqual(script.do(pair(0, 3)), [3])
        self.assertTrue(script.is_out(0))
        self.assertFalse(script.is_out(3))
        self.assertEqual(script.do(say(3, 3)), [-3])
        self.assertEqual(script.do(say(1, 2)), [-3])

    def test_an_answer_of_an_ended_dispute_is_heard(self):
        script = Script(new(turns=4, n=3), lie(0, 4, LIE), lie(1, 4, OTHER_LIE)).all_heard(3)
        script.do(pair(0, 1))
        question = script.do(say(1, 1))[0]
        script.do(pair(0, 2))
        halved(script, 2, (0, 2))
        self.assertTrue(script.is_out(0))
        self.assertEqual(script.do(say(1, 1)), [-3])
        script.do(pair(1, 2))
        self.assertEqual(script.do(say(3, 2)), [-4])
        answer = script.do(say(3, 1))[0] + 1
        script.do(deliver(question))
        script.do(deliver(answer))
        # Turn 2 was heard, though asked in dispute 1: now 3 is asked for, and host 2 said it already.
        self.assertEqual(script.do(say(3, 1))[1], 3)
        self.assertEqual(script.do(say(3, 2)), [-4])

    def test_pairs_again_when_a_dispute_has_ended(self):
        script = Script(new(turns=1, n=3), lie(0, 1, LIE)).all_heard(3)
        script.do(pair(0, 1))
        self.assertEqual(script.do(pair(0, 1)), [-10])
        self.assertEqual(script.do(pair(2, 1)), [-12])


class Twice(unittest.TestCase):

    def test_the_same_once_more_is_nothing(self):
        script = Script(new(), say(0, 0), double(0), deliver(0), deliver(1), deliver(2), deliver(3))
        self.assertFalse(script.is_out(0))
        self.assertEqual(script.do(say(0, 0)), [-4])

    def test_another_state_puts_out(self):
        script = Script(new(), say(0, 0), double(0), deliver(0), deliver(2), lie(0, 8, LIE), deliver(1))
        self.assertFalse(script.is_out(0))
        script.do(deliver(3))
        self.assertTrue(script.is_out(0))
        self.assertFalse(script.is_out(1))

    def test_other_turns_and_hosts_may_have_other_states(self):
        script = Script(new(), lie(1, 8, LIE)).all_heard(2)
        script.do(pair(0, 1))
        script.hears(1, 0)
        self.assertFalse(script.is_out(0))
        self.assertFalse(script.is_out(1))

    def test_in_whatever_dispute(self):
        script = Script(new(n=4), lie(0, 8, LIE)).all_heard(4)
        for other in (1, 2, 3):
            script.do(pair(0, other))
        first = script.do(say(3, 0))[0]
        script.do(say(2, 0))
        script.do(deliver(first))
        script.do(lie(0, 4, LIE))
        script.do(deliver(first + 1))
        script.do(deliver(first + 2))
        self.assertFalse(script.is_out(0))
        script.do(deliver(first + 3))
        self.assertTrue(script.is_out(0))
        for other in (1, 2, 3):
            self.assertFalse(script.is_out(other))
            self.assertEqual(script.do(say(other, other)), [-3])

    def test_what_was_heard_first_stays(self):
        script = Script(new(n=3), say(0, 0), double(0), deliver(0), deliver(2), lie(0, 8, LIE), deliver(1), deliver(3),
                        honest(0, 8))
        script.hears(0, 1)
        script.hears(0, 2)
        self.assertEqual(script.do(close()), [2, 3, 0, 9, 1])

    def test_silence_after_something_is_nothing(self):
        script = Script(new(), say(0, 0), double(0), deliver(0), deliver(2), mute(0, 8), deliver(1))
        self.assertFalse(script.is_out(0))
        self.assertEqual(script.do(say(0, 0)), [-4])


if __name__ == "__main__":
    unittest.main()
