"""The calls hush and close."""

import unittest

from tests.helper import (BIG, LIE, Script, close, deliver, double, honest, hush, in_dispute, lie, lose, mute, new,
                          pair, say)


def asked_in_vain(script, dispute, host, times):
    """The host is told silence beforehand."""
    for number in range(times):
        word = script.do(say(dispute, host))[0]
        script.do(deliver(word))
    return script


class Hush(unittest.TestCase):

    def test_in_the_opening(self):
        for k in range(6):
            script = asked_in_vain(Script(new(k=k), mute(1, 8)), 0, 1, k)
            self.assertEqual(script.do(hush(0, 1)), [-8])
            asked_in_vain(script, 0, 1, 1)
            self.assertEqual(script.do(hush(0, 1)), [1])
            self.assertTrue(script.is_out(1))
            self.assertFalse(script.is_out(0))
            self.assertEqual(script.do(hush(0, 1)), [-10])

    def test_in_a_dispute(self):
        for k in range(6):
            for host in (0, 1):
                script = in_dispute(k=k)
                script.do(mute(host, 4))
                asked_in_vain(script, 1, host, k)
                self.assertEqual(script.do(hush(1, host)), [-8])
                asked_in_vain(script, 1, host, 1)
                self.assertEqual(script.do(hush(1, host)), [host])
                self.assertTrue(script.is_out(host))
                self.assertFalse(script.is_out(1 - host))
                self.assertEqual(script.do(say(1, 1 - host)), [-3])

    def test_its_other_disputes_are_left(self):
        script = in_dispute(n=4)
        script.do(pair(2, 0))
        script.do(pair(0, 3))
        script.do(mute(0, 4))
        asked_in_vain(script, 2, 0, 2)
        self.assertEqual(script.do(hush(1, 0)), [-8])
        self.assertEqual(script.do(hush(2, 0)), [0])
        for dispute, host in ((1, 1), (2, 2), (3, 3)):
            self.assertFalse(script.is_out(host))
            self.assertEqual(script.do(say(dispute, host)), [-3])

    def test_counted_for_each_host(self):
        script = Script(new(k=1), mute(0, 8), mute(1, 8))
        asked_in_vain(script, 0, 0, 2)
        asked_in_vain(script, 0, 1, 1)
        self.assertEqual(script.do(hush(0, 1)), [-8])
        self.assertEqual(script.do(hush(0, 0)), [0])
        script = in_dispute(k=1)
        script.do(mute(0, 4))
        script.do(mute(1, 4))
        asked_in_vain(script, 1, 0, 2)
        asked_in_vain(script, 1, 1, 1)
        self.assertEqual(script.do(hush(1, 1)), [-8])
        self.assertEqual(script.do(hush(1, 0)), [0])

    def test_counted_anew_with_each_question(self):
        script = in_dispute(k=1)
        for number in range(3):
            script.do(say(1, 0))
        for word in (6, 7, 8, 9, 10, 11):
            script.do(deliver(word))
        script.hears(1, 1)
        script.do(mute(0, 6))
        self.assertEqual(script.do(hush(1, 0)), [-8])
        asked_in_vain(script, 1, 0, 1)
        self.assertEqual(script.do(hush(1, 0)), [-8])
        asked_in_vain(script, 1, 0, 1)
        self.assertEqual(script.do(hush(1, 0)), [0])

    def test_asking_in_the_opening_is_not_asking_in_a_dispute(self):
        script = Script(new(k=0), lie(0, 8, LIE))
        for number in range(3):
            script.do(say(0, 0))
        for word in range(6):
            script.do(deliver(word))
        script.hears(0, 1)
        script.do(pair(0, 1))
        self.assertEqual(script.do(hush(1, 0)), [-8])

    def test_lost_words_count_as_asked(self):
        script = Script(new(k=1), say(0, 0), lose(0), mute(0, 8), say(0, 0), deliver(1))
        self.assertEqual(script.do(hush(0, 0)), [0])

    def test_no_such_host(self):
        script = in_dispute()
        for dispute in (0, 1, 2, -1):
            for host in (-1, 3, BIG, -BIG):
                self.assertEqual(script.do(hush(dispute, host)), [-1])

    def test_the_end_is_found(self):
        script = asked_in_vain(Script(new(k=0), mute(0, 8)), 0, 0, 1)
        script.do(hush(0, 0))
        script.hears(0, 1)
        script.do(close())
        for dispute in (0, 1, -1):
            for host in (0, 1):
                self.assertEqual(script.do(hush(dispute, host)), [-3])
        self.assertEqual(script.do(hush(0, 2)), [-1])

    def test_the_host_is_out(self):
        script = asked_in_vain(Script(new(k=0), mute(0, 8)), 0, 0, 1)
        script.do(hush(0, 0))
        for dispute in (0, 1, -1, BIG):
            self.assertEqual(script.do(hush(dispute, 0)), [-10])

    def test_no_such_dispute(self):
        script = in_dispute()
        for dispute in (2, -1, BIG, -BIG):
            self.assertEqual(script.do(hush(dispute, 0)), [-6])

    def test_the_dispute_is_not_open(self):
        script = in_dispute(turns=1)
        self.assertEqual(script.do(hush(1, 0)), [-10])
        self.assertEqual(script.do(hush(1, 1)), [-3])
        self.assertEqual(script.do(hush(1, 2)), [-3])

    def test_not_the_hosts(self):
        script = in_dispute()
        self.assertEqual(script.do(hush(1, 2)), [-6])
        script.do(pair(2, 0))
        script.hears(2, 2)
        self.assertEqual(script.do(hush(1, 2)), [-6])

    def test_it_was_heard(self):
        script = Script(new(k=0), say(0, 0), double(0), deliver(0), deliver(2))
        self.assertEqual(script.do(hush(0, 0)), [-4])
        script = Script(new(k=0)).all_heard(2)
        self.assertEqual(script.do(hush(0, 0)), [-4])
        script = in_dispute(k=5)
        script.hears(1, 0)
        self.assertEqual(script.do(hush(1, 0)), [-4])
        self.assertEqual(script.do(hush(1, 1)), [-8])

    def test_a_question_is_on_the_line(self):
        script = Script(new(k=1), mute(0, 8), say(0, 0))
        self.assertEqual(script.do(hush(0, 0)), [-8])
        script.do(say(0, 0))
        self.assertEqual(script.do(hush(0, 0)), [-9])
        script.do(deliver(0))
        self.assertEqual(script.do(hush(0, 0)), [-9])
        script.do(deliver(1))
        self.assertEqual(script.do(hush(0, 0)), [0])

    def test_an_answer_is_on_the_line(self):
        script = Script(new(k=0), say(0, 0), deliver(0))
        self.assertEqual(script.do(hush(0, 0)), [-9])
        script.do(deliver(1))
        self.assertEqual(script.do(hush(0, 0)), [-4])

    def test_words_of_others_do_not_count(self):
        # Words to another host, of another dispute, or about another turn.
        script = in_dispute(k=1)
        script.do(pair(0, 2))
        script.do(say(1, 1))
        script.do(say(2, 0))
        script.do(mute(0, 4))
        asked_in_vain(script, 1, 0, 2)
        self.assertEqual(script.do(hush(1, 0)), [0])

    def test_words_about_an_older_question_do_not_count(self):
        script = in_dispute(k=0, n=2)
        old = script.do(say(1, 0))[0]
        script.do(double(old))
        script.do(deliver(old))
        script.do(deliver(old + 2))
        script.hears(1, 1)
        script.do(mute(0, 6))
        asked_in_vain(script, 1, 0, 1)
        self.assertEqual(script.do(hush(1, 0)), [0])
        self.assertEqual(script.do(deliver(old + 1)), [1])

    def test_a_refusal_changes_nothing(self):
        script = Script(new(k=1), mute(0, 8), say(0, 0))
        for number in range(3):
            self.assertEqual(script.do(hush(0, 0)), [-8])
        script.do(deliver(0))
        self.assertEqual(script.do(hush(0, 0)), [-8])
        script.do(honest(0, 8))
        self.assertEqual(script.hears(0, 0), 8)
        self.assertEqual(script.do(hush(0, 0)), [-4])


class Close(unittest.TestCase):

    def test_the_end_is_found(self):
        for n in range(2, 7):
            script = Script(new(n=n)).all_heard(n)
            self.assertEqual(script.do(close()), [n, 3, 0, 9, 1])
            self.assertEqual(script.do(close()), [-3])

    def test_only_what_hosts_say_counts(self):
        script = Script(new(), lie(0, 8, LIE), lie(1, 8, LIE)).all_heard(2)
        self.assertEqual(script.do(close()), [2, 3, 0, 500, 500])

    def test_the_row_has_as_many_numbers_as_there_are(self):
        for count in range(1, 7):
            script = Script(new(first=(3,) * count, program=(7, 0, 0, 0))).all_heard(2)
            self.assertEqual(script.do(close()), [2, count + 1, 0] + [3] * count)

    def test_none_is_in(self):
        script = Script(new(k=0), mute(0, 8), mute(1, 8))
        for host in (0, 1):
            asked_in_vain(script, 0, host, 1)
            script.do(hush(0, host))
        self.assertEqual(script.do(close()), [-10])

    def test_nothing_was_heard_of_one(self):
        script = Script(new(n=3), lie(0, 8, LIE))
        for host in range(3):
            self.assertEqual(script.do(close()), [-4])
            script.hears(0, host)
        self.assertEqual(script.do(close()), [-12])

    def test_hosts_that_are_out_do_not_count(self):
        script = Script(new(n=3, k=0), mute(2, 8), lie(0, 8, LIE))
        script.hears(0, 0)
        script.hears(0, 1)
        asked_in_vain(script, 0, 2, 1)
        self.assertEqual(script.do(close()), [-4])
        script.do(hush(0, 2))
        self.assertEqual(script.do(close()), [-12])
        script.do(pair(0, 1))
        script.do(mute(0, 4))
        asked_in_vain(script, 1, 0, 1)
        script.do(hush(1, 0))
        self.assertEqual(script.do(close()), [1, 3, 0, 9, 1])

    def test_the_last_one_differs(self):
        script = Script(new(n=6), lie(5, 8, LIE)).all_heard(6)
        self.assertEqual(script.do(close()), [-12])

    def test_a_refusal_finds_no_end(self):
        script = Script(new(), lie(0, 8, LIE))
        self.assertEqual(script.do(close()), [-4])
        script.all_heard(2)
        self.assertEqual(script.do(close()), [-12])
        self.assertEqual(script.do(pair(0, 1)), [1])

    def test_nothing_more_is_heard(self):
        script = Script(new(n=2, k=1), say(0, 0), double(0), say(0, 1), deliver(0), deliver(2), deliver(3), deliver(4))
        self.assertEqual(script.do(close()), [2, 3, 0, 9, 1])
        script.do(lie(0, 8, LIE))
        self.assertEqual(script.do(deliver(1)), [1])
        self.assertEqual(script.do(deliver(5)), [0])
        self.assertEqual(script.do(close()), [-3])


if __name__ == "__main__":
    unittest.main()
