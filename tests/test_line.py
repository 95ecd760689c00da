"""The calls say, deliver, lose and double."""

import unittest

from tests.helper import (BIG, LIE, Script, ask, clear, close, deliver, double, honest, hush, in_dispute, last, lie,
                          lose, mute, new, pair, say)


def full_line(script):
    while script.do(say(0, 0))[0] != -5:
        pass
    return script


class Say(unittest.TestCase):

    def test_the_words_number_and_the_turn(self):
        self.assertEqual(ask(new(turns=8), say(0, 0), say(0, 1), say(0, 0))[1:], [[0, 8], [1, 8], [2, 8]])
        self.assertEqual(ask(new(turns=2000), say(0, 1))[1:], [[0, 2000]])

    def test_a_dispute_asks_for_the_middle(self):
        for turns, middle in ((2, 1), (3, 1), (4, 2), (8, 4), (9, 4), (1999, 999), (2000, 1000)):
            script = in_dispute(turns=turns)
            self.assertEqual(script.do(say(1, 0)), [6, middle])
            self.assertEqual(script.do(say(1, 1)), [7, middle])

    def test_no_such_host(self):
        for dispute in (0, 1, 2, -1):
            for host in (-1, 3, BIG, -BIG):
                self.assertEqual(in_dispute().do(say(dispute, host)), [-1])

    def test_the_end_is_found(self):
        script = Script(new()).all_heard(2)
        script.do(close())
        self.assertEqual(script.do(say(0, 0)), [-3])
        self.assertEqual(script.do(say(5, 0)), [-3])
        self.assertEqual(script.do(say(0, 2)), [-1])

    def test_the_end_is_found_before_the_host_is_out(self):
        script = Script(new(k=0), mute(0, 8), say(0, 0), deliver(0), hush(0, 0))
        script.hears(0, 1)
        script.do(close())
        self.assertEqual(script.do(say(0, 0)), [-3])

    def test_the_host_is_out(self):
        script = Script(new(k=0), mute(0, 8), say(0, 0), deliver(0), hush(0, 0))
        for dispute in (0, 1, -1, BIG):
            self.assertEqual(script.do(say(dispute, 0)), [-10])

    def test_no_such_dispute(self):
        script = in_dispute()
        for dispute in (2, -1, BIG, -BIG):
            self.assertEqual(script.do(say(dispute, 0)), [-6])

    def test_the_dispute_is_not_open(self):
        script = in_dispute(turns=1)
        self.assertEqual(script.do(say(1, 1)), [-3])
        self.assertEqual(script.do(say(1, 2)), [-3])
        self.assertEqual(script.do(say(1, 0)), [-10])

    def test_not_the_hosts(self):
        script = in_dispute()
        self.assertEqual(script.do(say(1, 2)), [-6])
        # The turn asked for was heard of host 2 in another dispute: that is told later.
        script.do(pair(2, 0))
        script.hears(2, 2)
        self.assertEqual(script.do(say(1, 2)), [-6])

    def test_heard_already(self):
        script = Script(new())
        script.hears(0, 0)
        self.assertEqual(script.do(say(0, 0)), [-4])
        self.assertEqual(script.do(say(0, 1)), [2, 8])
        script = in_dispute()
        script.hears(1, 0)
        self.assertEqual(script.do(say(1, 0)), [-4])
        self.assertEqual(script.do(say(1, 1)), [8, 4])

    def test_sixty_words_on_the_line(self):
        script = Script(new(n=3))
        script.hears(0, 2)
        for number in range(60):
            self.assertEqual(script.do(say(0, 0)), [2 + number, 8])
        self.assertEqual(script.do(say(0, 0)), [-5])
        self.assertEqual(script.do(say(0, 1)), [-5])
        self.assertEqual(script.do(say(0, 2)), [-4])
        self.assertEqual(script.do(say(1, 0)), [-6])
        self.assertEqual(script.do(lose(40)), [59])
        self.assertEqual(script.do(say(0, 1)), [62, 8])
        self.assertEqual(script.do(say(0, 1)), [-5])

    def test_a_refused_one_makes_no_word_and_asks_nothing(self):
        script = Script(new(k=0))
        for refused in (say(0, 2), say(1, 0)):
            script.do(refused)
        self.assertEqual(script.do(hush(0, 0)), [-8])
        self.assertEqual(script.do(say(0, 0)), [0, 8])
        self.assertEqual(script.do(deliver(0)), [1])


class Deliver(unittest.TestCase):

    def test_a_question_makes_an_answer_behind_the_others(self):
        self.assertEqual(
            ask(new(), say(0, 0), say(0, 1), deliver(0), deliver(0), deliver(2), deliver(2), deliver(1), deliver(3))[3:],
            [[2], [-6], [1], [-6], [1], [0]])

    def test_a_question_that_nothing_is_said_to(self):
        self.assertEqual(ask(new(), mute(0, 8), say(0, 0), say(0, 0), deliver(1), deliver(0))[4:], [[1], [0]])

    def test_words_come_in_any_order(self):
        calls = (new(), say(0, 0), say(0, 1), deliver(1), deliver(0), deliver(3), deliver(2), close())
        self.assertEqual(ask(*calls)[3:], [[2], [2], [1], [0], [2, 3, 0, 9, 1]])

    def test_no_such_word(self):
        for word in (1, -1, BIG, -BIG):
            self.assertEqual(last(new(), say(0, 0), deliver(word)), [-6])
        self.assertEqual(last(new(), deliver(0)), [-6])

    def test_a_refusal_changes_nothing(self):
        self.assertEqual(ask(new(), say(0, 0), deliver(1), deliver(-1), say(0, 0), deliver(0))[2:],
                         [[-6], [-6], [1, 8], [2]])

    def test_a_question_that_comes_on_a_full_line(self):
        script = full_line(Script(new()))
        self.assertEqual(script.do(deliver(0)), [60])
        self.assertEqual(script.do(say(0, 1)), [-5])
        self.assertEqual(script.do(deliver(60)), [59])
        self.assertEqual(script.do(say(0, 0)), [-4])

    def test_a_host_that_is_out_still_answers_but_nothing_follows(self):
        script = Script(new(k=0, n=3), lie(0, 8, LIE), say(0, 0), double(0), deliver(0), deliver(2),
                        honest(0, 8), say(0, 1), double(3), double(3), deliver(1))
        # Host 0 said two things; it is out without any dispute.
        self.assertEqual(script.do(deliver(6)), [3])
        self.assertTrue(script.is_out(0))
        script.do(deliver(3))
        script.do(deliver(7))
        script.hears(0, 2)
        self.assertEqual(script.do(close()), [2, 3, 0, 9, 1])
        # The end is found: questions are answered, and what is heard changes nothing.
        script.do(lie(1, 8, LIE))
        self.assertEqual(script.do(deliver(4)), [2])
        self.assertEqual(script.do(deliver(10)), [1])
        self.assertEqual(script.do(close()), [-3])

    def test_a_question_to_a_host_that_is_out_is_answered(self):
        script = in_dispute(turns=8, n=2)
        self.assertEqual(script.do(say(1, 0)), [4, 4])
        script.do(double(4))
        script.do(deliver(4))
        script.do(deliver(6))
        script.do(double(5))
        script.do(lie(0, 4, LIE))
        script.do(deliver(5))
        self.assertEqual(script.do(deliver(8)), [1])
        self.assertTrue(script.is_out(0))
        self.assertEqual(script.do(deliver(7)), [1])
        self.assertEqual(script.do(deliver(9)), [0])


class Lose(unittest.TestCase):

    def test_k_words_of_the_opening(self):
        for k in range(6):
            script = Script(new(k=k), *[say(0, number % 2) for number in range(8)])
            for number in range(k):
                self.assertEqual(script.do(lose(number)), [7 - number])
            self.assertEqual(script.do(lose(k)), [-7])
            self.assertEqual(script.do(deliver(k)), [8 - k])

    def test_answers_are_lost_too(self):
        self.assertEqual(
            ask(new(k=1), say(0, 0), deliver(0), lose(1), say(0, 0), deliver(2), lose(3), deliver(3), say(0, 0))[2:],
            [[1], [0], [2, 8], [1], [-7], [0], [-4]])

    def test_each_dispute_by_itself(self):
        script = Script(new(n=3, k=1), lie(0, 8, LIE), say(0, 0), lose(0)).all_heard(3)
        script.do(pair(0, 1))
        script.do(pair(2, 0))
        for dispute in (1, 2):
            word = script.do(say(dispute, 0))[0]
            self.assertEqual(script.do(lose(word)), [0])
        for dispute in (1, 2):
            word = script.do(say(dispute, 0))[0]
            self.assertEqual(script.do(lose(word)), [-7])

    def test_counted_over_all_questions_of_a_dispute(self):
        script = in_dispute(k=1)
        word = script.do(say(1, 0))[0]
        self.assertEqual(script.do(lose(word)), [0])
        script.hears(1, 0)
        script.hears(1, 1)
        word = script.do(say(1, 0))[0]
        self.assertEqual(script.do(lose(word)), [-7])

    def test_words_of_a_dispute_that_has_ended(self):
        script = in_dispute(turns=2, k=1, n=2)
        extra = script.do(say(1, 1))[0]
        script.do(double(extra))
        script.hears(1, 0)
        script.hears(1, 1)
        self.assertTrue(script.is_out(0))
        self.assertEqual(script.do(lose(extra)), [1])
        self.assertEqual(script.do(lose(extra + 1)), [-7])

    def test_a_lost_word_does_not_come(self):
        self.assertEqual(ask(new(), say(0, 0), lose(0), deliver(0), lose(0), double(0))[2:], [[0], [-6], [-6], [-6]])

    def test_no_such_word(self):
        for word in (1, -1, BIG, -BIG):
            self.assertEqual(last(new(k=0), say(0, 0), lose(word)), [-6])

    def test_a_refusal_changes_nothing(self):
        self.assertEqual(ask(new(k=1), say(0, 0), lose(5), lose(0), say(0, 0), lose(1), deliver(1))[2:],
                         [[-6], [0], [1, 8], [-7], [1]])


class Double(unittest.TestCase):

    def test_a_like_one_is_put_behind_the_others(self):
        self.assertEqual(ask(new(), say(0, 0), say(0, 1), double(0), deliver(2), deliver(3), say(0, 0), say(0, 1))[3:],
                         [[2], [3], [2], [-4], [4, 8]])

    def test_an_answer_keeps_its_state(self):
        script = Script(new(), lie(0, 8, LIE), say(0, 0), deliver(0), double(1), honest(0, 8))
        self.assertEqual(script.do(deliver(2)), [1])
        script.do(lie(1, 8, LIE))
        script.hears(0, 1)
        self.assertEqual(script.do(close()), [2, 3, 0, 500, 500])

    def test_a_dispute_s_word_is_doubled_with_its_dispute(self):
        script = in_dispute(k=1, n=2)
        word = script.do(say(1, 0))[0]
        self.assertEqual(script.do(double(word)), [word + 1])
        self.assertEqual(script.do(lose(word + 1)), [1])
        self.assertEqual(script.do(lose(word)), [-7])

    def test_doubling_is_not_asking(self):
        script = Script(new(k=1), mute(0, 8), say(0, 0), double(0), double(0))
        for word in (0, 1, 2):
            script.do(deliver(word))
        self.assertEqual(script.do(hush(0, 0)), [-8])

    def test_no_such_word(self):
        for word in (1, -1, BIG, -BIG):
            self.assertEqual(last(new(), say(0, 0), double(word)), [-6])
        self.assertEqual(last(double(0)), [-6])
        self.assertEqual(last(new(), say(0, 0), clear(), double(0)), [-6])

    def test_sixty_words_on_the_line(self):
        script = Script(new(), say(0, 0))
        for number in range(1, 60):
            self.assertEqual(script.do(double(number - 1)), [number])
        self.assertEqual(script.do(double(59)), [-5])
        self.assertEqual(script.do(double(60)), [-6])
        self.assertEqual(script.do(lose(0)), [59])
        self.assertEqual(script.do(double(59)), [60])


if __name__ == "__main__":
    unittest.main()
