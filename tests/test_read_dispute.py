"""The calls dispute and agreed, at each stage of a dispute."""

import unittest

from tests.helper import (BIG, LIE, OTHER_LIE, Script, close, deliver, double, hush, in_dispute, lie, lose, mute, new,
                          pair, read_agreed, read_counts, read_dispute, read_heard, say)

# What dispute answers: the turn asked for; the first host, the second, the lower turn, the upper one,
# asked of the first, asked of the second, questions, words lost; how it ended (two numbers).


def ended_with(script, dispute):
    return script.sees(read_dispute(dispute))[9:]


class JustPaired(unittest.TestCase):

    def test_with_one_turn_it_has_ended_without_a_question(self):
        for hosts in ((0, 1), (1, 0)):
            for liar in (0, 1):
                script = Script(new(turns=1), lie(liar, 1, LIE)).all_heard(2)
                script.do(pair(*hosts))
                self.assertEqual(script.sees(read_dispute(1)), [0, *hosts, 0, 1, 0, 0, 0, 0, 1, hosts.index(liar) + 1])
                self.assertEqual(script.sees(read_agreed(1)), [0, 3, 0, 1, 1])

    def test_the_turn_in_the_middle_is_asked_for(self):
        for turns, middle in ((2, 1), (3, 1), (4, 2), (5, 2), (8, 4), (9, 4), (1999, 999), (2000, 1000)):
            script = in_dispute(turns=turns)
            self.assertEqual(script.sees(read_dispute(1)), [middle, 0, 1, 0, turns, 0, 0, 1, 0, 0, 0])
            self.assertEqual(script.sees(read_agreed(1)), [0, 3, 0, 1, 1])

    def test_the_first_and_the_second_host(self):
        script = Script(new(n=6), lie(4, 8, LIE)).all_heard(6)
        for hosts in ((4, 2), (5, 4), (4, 0)):
            script.do(pair(*hosts))
        self.assertEqual([script.sees(read_dispute(number))[1:3] for number in (1, 2, 3)], [[4, 2], [5, 4], [4, 0]])

    def test_agreed_is_the_beginning_though_they_say_something_else_of_it(self):
        program = (7, 0, 0, 0) * 3
        script = Script(new(program=program, first=(7, 8, 9)), lie(0, 8, (2, 1, 1, 1)), lie(0, 0, (1, 5, 5, 5)),
                        lie(1, 0, (1, 5, 5, 5))).all_heard(2)
        script.do(pair(1, 0))
        self.assertEqual(script.sees(read_agreed(1)), [0, 4, 0, 7, 8, 9])

    def test_with_what_was_heard_before(self):
        # Host 1 and host 2 were heard for turn 4 in other disputes: dispute 3 goes on from there at once.
        script = Script(new(n=4), lie(0, 8, LIE), lie(1, 8, OTHER_LIE)).all_heard(4)
        script.do(pair(0, 2))
        script.do(pair(1, 3))
        script.hears(1, 2)
        script.hears(2, 1)
        script.do(pair(1, 2))
        self.assertEqual(script.sees(read_dispute(3)), [6, 1, 2, 4, 8, 0, 0, 2, 0, 0, 0])
        self.assertEqual(script.sees(read_agreed(3)), [4, 3, 0, 5, 1])

    def test_with_one_heard_before_and_the_other_not(self):
        script = in_dispute()
        script.hears(1, 0)
        script.do(pair(2, 0))
        self.assertEqual(script.sees(read_dispute(2)), [4, 2, 0, 0, 8, 0, 0, 1, 0, 0, 0])


class InTheMiddle(unittest.TestCase):

    def test_the_documents_example(self):
        script = Script(new(), *[lie(1, turn, (0, 99, 1)) for turn in (5, 6, 7, 8)]).all_heard(2)
        script.do(pair(0, 1))
        seen = [(script.sees(read_dispute(1)), script.sees(read_agreed(1)))]
        for number in range(3):
            script.hears(1, 0)
            seen.append((script.sees(read_dispute(1)), script.sees(read_agreed(1))))
            script.hears(1, 1)
            seen.append((script.sees(read_dispute(1)), script.sees(read_agreed(1))))
        self.assertEqual(seen, [
            ([4, 0, 1, 0, 8, 0, 0, 1, 0, 0, 0], [0, 3, 0, 1, 1]),
            ([4, 0, 1, 0, 8, 1, 0, 1, 0, 0, 0], [0, 3, 0, 1, 1]),
            ([6, 0, 1, 4, 8, 0, 0, 2, 0, 0, 0], [4, 3, 0, 5, 1]),
            ([6, 0, 1, 4, 8, 1, 0, 2, 0, 0, 0], [4, 3, 0, 5, 1]),
            ([5, 0, 1, 4, 6, 0, 0, 3, 0, 0, 0], [4, 3, 0, 5, 1]),
            ([5, 0, 1, 4, 6, 1, 0, 3, 0, 0, 0], [4, 3, 0, 5, 1]),
            # When no more is asked for, the turn asked for last and its counts stay.
            ([5, 0, 1, 4, 5, 1, 1, 3, 0, 1, 2], [4, 3, 0, 5, 1]),
        ])

    def test_an_odd_number_of_turns(self):
        script = Script(new(turns=9), *[lie(0, turn, LIE) for turn in range(3, 10)]).all_heard(2)
        script.do(pair(1, 0))
        seen = []
        while ended_with(script, 1) == [0, 0]:
            seen.append(script.sees(read_dispute(1))[:5])
            script.hears(1, 1)
            script.hears(1, 0)
        self.assertEqual(seen, [[4, 1, 0, 0, 9], [2, 1, 0, 0, 4], [3, 1, 0, 2, 4]])
        self.assertEqual(script.sees(read_dispute(1)), [3, 1, 0, 2, 3, 1, 1, 3, 0, 1, 2])
        self.assertEqual(script.sees(read_agreed(1)), [2, 3, 0, 3, 1])

    def test_the_longest_run(self):
        script = Script(new(turns=2000), lie(0, 2000, LIE)).all_heard(2)
        script.do(pair(0, 1))
        for number in range(11):
            self.assertEqual(ended_with(script, 1), [0, 0])
            script.hears(1, 1)
            script.hears(1, 0)
        self.assertEqual(script.sees(read_dispute(1)), [1999, 0, 1, 1999, 2000, 1, 1, 11, 0, 1, 1])
        self.assertEqual(script.sees(read_agreed(1)), [1999, 3, 0, 0, 1])

    def test_agreed_is_what_both_said_though_it_is_not_so(self):
        script = Script(new(turns=4), lie(0, 4, LIE), lie(0, 2, OTHER_LIE), lie(1, 2, OTHER_LIE)).all_heard(2)
        script.do(pair(0, 1))
        script.hears(1, 0)
        script.hears(1, 1)
        self.assertEqual(script.sees(read_agreed(1)), [2, 3, 0, 600, 600])
        self.assertEqual(script.sees(read_dispute(1)), [3, 0, 1, 2, 4, 0, 0, 2, 0, 0, 0])

    def test_one_answer_moves_several_disputes(self):
        script = in_dispute()
        script.do(pair(2, 0))
        script.hears(1, 1)
        script.hears(2, 2)
        script.hears(1, 0)
        self.assertEqual(script.sees(read_dispute(1)), [6, 0, 1, 4, 8, 0, 0, 2, 0, 0, 0])
        self.assertEqual(script.sees(read_dispute(2)), [6, 2, 0, 4, 8, 0, 0, 2, 0, 0, 0])


class AskedAndLost(unittest.TestCase):

    def test_asked_several_times_of_one_and_of_both(self):
        script = in_dispute()
        counts = []
        for host in (0, 0, 0, 1, 1, 0):
            script.do(say(1, host))
            counts.append(script.sees(read_dispute(1))[5:7])
        self.assertEqual(counts, [[1, 0], [2, 0], [3, 0], [3, 1], [3, 2], [4, 2]])

    def test_the_counts_are_of_the_first_and_the_second_not_of_the_lower_number(self):
        script = Script(new(n=3), lie(0, 8, LIE)).all_heard(3)
        script.do(pair(2, 0))
        for host in (0, 0, 2):
            script.do(say(1, host))
        self.assertEqual(script.sees(read_dispute(1)), [4, 2, 0, 0, 8, 1, 2, 1, 0, 0, 0])

    def test_counted_anew_with_each_question(self):
        script = in_dispute()
        first = script.do(say(1, 0))[0]
        script.do(say(1, 0))
        script.do(say(1, 1))
        script.do(say(1, 1))
        for word in range(first, first + 8):
            script.do(deliver(word))
        self.assertEqual(script.sees(read_dispute(1)), [6, 0, 1, 4, 8, 0, 0, 2, 0, 0, 0])

    def test_a_refused_say_does_not_count(self):
        script = in_dispute()
        script.hears(1, 0)
        for refused in (say(1, 0), say(1, 2), say(1, 3), say(2, 0)):
            self.assertLess(script.do(refused)[0], 0)
        self.assertEqual(script.sees(read_dispute(1)), [4, 0, 1, 0, 8, 1, 0, 1, 0, 0, 0])

    def test_words_lost_and_doubled(self):
        script = in_dispute(k=3)
        word = script.do(say(1, 0))[0]
        script.do(double(word))
        script.do(double(word))
        # Doubling is no asking; a double that's lost is a word that's lost.
        self.assertEqual(script.sees(read_dispute(1)), [4, 0, 1, 0, 8, 1, 0, 1, 0, 0, 0])
        script.do(lose(word))
        script.do(lose(word + 1))
        self.assertEqual(script.sees(read_dispute(1)), [4, 0, 1, 0, 8, 1, 0, 1, 2, 0, 0])
        script.do(deliver(word + 2))
        script.do(double(word + 3))
        script.do(lose(word + 3))
        self.assertEqual(script.do(lose(word + 4)), [-7])
        self.assertEqual(script.sees(read_dispute(1)), [4, 0, 1, 0, 8, 1, 0, 1, 3, 0, 0])
        script.do(deliver(word + 4))
        script.hears(1, 1)
        # The words lost are counted over all questions.
        self.assertEqual(script.sees(read_dispute(1)), [6, 0, 1, 4, 8, 0, 0, 2, 3, 0, 0])
        self.assertEqual(script.sees(read_counts())[3], 3)

    def test_words_lost_of_other_disputes_and_of_the_opening(self):
        script = Script(new(n=3, k=2), lie(0, 8, LIE), say(0, 0), lose(0), say(0, 1), lose(1)).all_heard(3)
        script.do(pair(0, 1))
        script.do(pair(0, 2))
        script.do(lose(script.do(say(2, 0))[0]))
        self.assertEqual([script.sees(read_dispute(number))[8] for number in (1, 2)], [0, 1])

    def test_words_lost_when_it_has_ended(self):
        script = in_dispute(turns=2, n=2)
        extra = script.do(say(1, 1))[0]
        script.hears(1, 0)
        script.hears(1, 1)
        self.assertEqual(script.sees(read_dispute(1)), [1, 0, 1, 1, 2, 1, 2, 1, 0, 1, 1])
        self.assertEqual(script.do(lose(extra)), [0])
        self.assertEqual(script.sees(read_dispute(1)), [1, 0, 1, 1, 2, 1, 2, 1, 1, 1, 1])


class Ended(unittest.TestCase):

    def test_the_first_is_wrong_or_the_second_or_both(self):
        for liars, who in (((0,), 1), ((1,), 2), ((0, 1), 3)):
            lies = [lie(host, turn, (0, 500 + host, 1)) for host in liars for turn in (1, 2, 3)]
            script = Script(new(turns=3), *lies).all_heard(2)
            script.do(pair(0, 1))
            script.hears(1, 0)
            script.hears(1, 1)
            self.assertEqual(script.sees(read_dispute(1)), [1, 0, 1, 0, 1, 1, 1, 1, 0, 1, who])

    def test_who_is_wrong_is_the_first_or_the_second_not_the_hosts_number(self):
        for hosts, who in (((4, 2), 1), ((2, 4), 2)):
            script = Script(new(turns=1, n=5), lie(4, 1, LIE)).all_heard(5)
            script.do(pair(*hosts))
            self.assertEqual(ended_with(script, 1), [1, who])

    def test_twice_with_the_hosts_number(self):
        for hosts in ((4, 2), (2, 4)):
            for host in hosts:
                script = Script(new(n=5), lie(4, 8, LIE)).all_heard(5)
                script.do(pair(*hosts))
                word = script.do(say(1, host))[0]
                script.do(say(1, host))
                script.do(deliver(word))
                script.do(deliver(word + 2))
                script.do(lie(host, 4, OTHER_LIE))
                script.do(deliver(word + 1))
                self.assertEqual(ended_with(script, 1), [0, 0])
                script.do(deliver(word + 3))
                asked = [2 * int(host == one) for one in hosts]
                self.assertEqual(script.sees(read_dispute(1)), [4, *hosts, 0, 8, *asked, 1, 0, 2, host])
                self.assertEqual(script.sees(read_agreed(1)), [0, 3, 0, 1, 1])

    def test_silent_with_the_hosts_number(self):
        for hosts in ((4, 2), (2, 4)):
            for host in hosts:
                script = Script(new(n=5, k=1), lie(4, 8, LIE), mute(host, 4)).all_heard(5)
                script.do(pair(*hosts))
                script.do(lose(script.do(say(1, host))[0]))
                script.do(deliver(script.do(say(1, host))[0]))
                self.assertEqual(script.do(hush(1, host)), [host])
                asked = [2 * int(host == one) for one in hosts]
                self.assertEqual(script.sees(read_dispute(1)), [4, *hosts, 0, 8, *asked, 1, 1, 3, host])

    def test_left_with_the_first_host_or_with_the_second(self):
        for hosts in ((4, 2), (2, 4)):
            script = Script(new(n=5, k=0), lie(4, 8, LIE), mute(4, 4)).all_heard(5)
            script.do(pair(*hosts))
            script.do(pair(4, 3))
            script.hears(1, 2)
            script.do(deliver(script.do(say(2, 4))[0]))
            self.assertEqual(script.do(hush(2, 4)), [4])
            asked = [int(one == 2) for one in hosts]
            self.assertEqual(script.sees(read_dispute(1)), [4, *hosts, 0, 8, *asked, 1, 0, 4, 4])
            self.assertEqual(script.sees(read_dispute(2)), [4, 4, 3, 0, 8, 1, 0, 1, 0, 3, 4])
            self.assertEqual(script.sees(read_agreed(1)), [0, 3, 0, 1, 1])

    def test_host_0_too(self):
        script = Script(new(n=3, k=0), lie(0, 8, LIE), mute(0, 4)).all_heard(3)
        script.do(pair(1, 0))
        script.do(pair(0, 2))
        script.do(deliver(script.do(say(1, 0))[0]))
        script.do(hush(1, 0))
        self.assertEqual([ended_with(script, number) for number in (1, 2)], [[3, 0], [4, 0]])

    def test_what_comes_later_changes_nothing_of_it(self):
        # Dispute 1 is left; then its other host is heard for the turn that it asked for.
        script = Script(new(n=3, k=0), lie(0, 8, LIE), lie(1, 8, OTHER_LIE), mute(0, 4)).all_heard(3)
        script.do(pair(0, 1))
        script.do(pair(2, 0))
        late = script.do(say(1, 1))[0]
        script.do(deliver(script.do(say(2, 0))[0]))
        script.do(hush(2, 0))
        before = script.sees(read_dispute(1))
        self.assertEqual(before, [4, 0, 1, 0, 8, 0, 1, 1, 0, 4, 0])
        script.do(deliver(late))
        script.do(deliver(late + 2))
        self.assertEqual(script.sees(read_heard(1, 4)), [4, 3, 0, 5, 1])
        script.do(pair(1, 2))
        self.assertEqual(script.sees(read_dispute(1)), before)

    def test_when_the_end_is_found(self):
        script = in_dispute(turns=2, n=2)
        script.hears(1, 0)
        script.hears(1, 1)
        before = script.sees(read_dispute(1))
        self.assertEqual(script.do(close()), [1, 3, 0, 3, 1])
        self.assertEqual(script.sees(read_dispute(1)), before)
        self.assertEqual(script.sees(read_agreed(1)), [1, 3, 0, 2, 1])


class NoSuchDispute(unittest.TestCase):

    def test_before_any_and_beyond_the_last(self):
        script = Script(new())
        for number in (0, 1, -1, BIG, -BIG):
            self.assertEqual(script.sees(read_dispute(number)), [-6])
            self.assertEqual(script.sees(read_agreed(number)), [-6])
        script = in_dispute()
        script.do(pair(2, 0))
        for number in (0, 3, -1, -2, BIG, -BIG):
            self.assertEqual(script.sees(read_dispute(number)), [-6])
            self.assertEqual(script.sees(read_agreed(number)), [-6])
        self.assertEqual(script.sees(read_dispute(2))[1:3], [2, 0])


if __name__ == "__main__":
    unittest.main()
