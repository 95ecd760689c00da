"""The calls line, word and counts."""

import unittest

from tests.helper import (BIG, LIE, Script, ask, clear, deliver, double, honest, hush, in_dispute, last, lie, lose,
                          mute, new, pair, read_counts, read_line, read_word, say)


class Line(unittest.TestCase):

    def test_how_many_and_their_numbers(self):
        script = Script(new())
        self.assertEqual(script.sees(read_line()), [0, 0])
        seen = []
        for call in (say(0, 1), say(0, 0), double(0), deliver(0), lose(1), deliver(3), deliver(2), deliver(4)):
            script.do(call)
            seen.append(script.sees(read_line()))
        self.assertEqual(seen, [[1, 1, 0], [2, 2, 0, 1], [3, 3, 0, 1, 2], [3, 3, 1, 2, 3], [2, 2, 2, 3], [1, 1, 2],
                                [1, 1, 4], [0, 0]])

    def test_in_the_order_in_which_they_were_made(self):
        script = Script(new(), *[say(0, 0) for number in range(4)], deliver(2), double(1), deliver(0))
        self.assertEqual(script.sees(read_line()), [5, 5, 1, 3, 4, 5, 6])

    def test_a_full_line_and_beyond(self):
        script = Script(new(), *[say(0, 0) for number in range(61)])
        self.assertEqual(script.sees(read_line()), [60, 60, *range(60)])
        script.do(deliver(0))
        self.assertEqual(script.sees(read_line()), [60, 60, *range(1, 61)])

    def test_a_refused_call_puts_nothing_there(self):
        script = Script(new(k=0), say(0, 0), say(0, 2), say(1, 0), lose(0), lose(1), deliver(1), double(1), new())
        self.assertEqual(script.sees(read_line()), [1, 1, 0])

    def test_without_an_affair(self):
        self.assertEqual(last(read_line()), [0, 0])
        self.assertEqual(last(new(), say(0, 0), clear(), read_line()), [0, 0])

    def test_behind_a_second_affair(self):
        script = Script(new(), say(0, 0), lose(0), new(n=3), say(0, 2))
        self.assertEqual(script.sees(read_line()), [1, 1, 1])


class Word(unittest.TestCase):

    def test_a_question_of_the_opening(self):
        self.assertEqual(ask(new(n=3), say(0, 2), say(0, 0), read_word(0), read_word(1))[3:],
                         [[0, 2, 8, 0], [0, 0, 8, 0]])

    def test_an_answer_of_the_opening(self):
        script = Script(new(), lie(1, 8, LIE), say(0, 0), say(0, 1), deliver(0), deliver(1))
        self.assertEqual(script.sees(read_word(2)), [0, 0, 8, 1, 3, 0, 9, 1])
        self.assertEqual(script.sees(read_word(3)), [0, 1, 8, 1, 3, 0, 500, 500])

    def test_of_a_dispute(self):
        script = in_dispute()
        script.do(pair(2, 0))
        word = script.do(say(2, 2))[0]
        self.assertEqual(script.sees(read_word(word)), [2, 2, 4, 0])
        script.do(deliver(word))
        self.assertEqual(script.sees(read_word(word + 1)), [2, 2, 4, 1, 3, 0, 5, 1])

    def test_a_double_is_like_its_word(self):
        script = in_dispute()
        word = script.do(say(1, 1))[0]
        script.do(double(word))
        self.assertEqual(script.sees(read_word(word + 1)), [1, 1, 4, 0])
        script.do(deliver(word))
        script.do(lie(1, 4, LIE))
        script.do(double(word + 2))
        self.assertEqual(script.sees(read_word(word + 3)), [1, 1, 4, 1, 3, 0, 5, 1])
        # The double of the question is answered with what the host says by then.
        script.do(deliver(word + 1))
        self.assertEqual(script.sees(read_word(word + 4)), [1, 1, 4, 1, 3, 0, 500, 500])
        self.assertEqual(script.sees(read_word(word + 2)), [1, 1, 4, 1, 3, 0, 5, 1])

    def test_an_answer_stays_as_it_was_said(self):
        script = Script(new(), lie(0, 8, LIE), say(0, 0), deliver(0), honest(0, 8))
        self.assertEqual(script.sees(read_word(1)), [0, 0, 8, 1, 3, 0, 500, 500])
        script.do(mute(0, 8))
        self.assertEqual(script.sees(read_word(1)), [0, 0, 8, 1, 3, 0, 500, 500])

    def test_a_question_keeps_its_turn_when_the_dispute_asks_for_another(self):
        script = in_dispute(n=2)
        old = script.do(say(1, 0))[0]
        script.hears(1, 0)
        script.hears(1, 1)
        new_word = script.do(say(1, 0))[0]
        self.assertEqual(script.sees(read_word(old)), [1, 0, 4, 0])
        self.assertEqual(script.sees(read_word(new_word)), [1, 0, 6, 0])

    def test_of_a_dispute_that_has_ended(self):
        script = in_dispute(k=0)
        question = script.do(say(1, 1))[0]
        script.do(mute(0, 4))
        script.do(deliver(script.do(say(1, 0))[0]))
        self.assertEqual(script.do(hush(1, 0)), [0])
        self.assertEqual(script.sees(read_word(question)), [1, 1, 4, 0])
        script.do(deliver(question))
        self.assertEqual(script.sees(read_word(question + 2)), [1, 1, 4, 1, 3, 0, 5, 1])

    def test_of_a_host_that_is_out(self):
        script = Script(new(), say(0, 0), say(0, 0), say(0, 0), deliver(0), deliver(3), lie(0, 8, LIE), deliver(1),
                        deliver(4))
        self.assertTrue(script.is_out(0))
        self.assertEqual(script.sees(read_word(2)), [0, 0, 8, 0])
        script.do(deliver(2))
        self.assertEqual(script.sees(read_word(5)), [0, 0, 8, 1, 3, 0, 500, 500])

    def test_a_state_with_as_many_numbers_as_there_are(self):
        for count in range(1, 7):
            script = Script(new(program=(7, 0, 0, 0) * 2, turns=3, first=(9,) * count), say(0, 0), deliver(0))
            self.assertEqual(script.sees(read_word(1)), [0, 0, 3, 1, count + 1, 1] + [9] * count)

    def test_no_such_word_on_the_line(self):
        script = Script(new(), mute(1, 8), say(0, 0), say(0, 1), say(0, 0), deliver(0), lose(2), deliver(1))
        for word in (0, 1, 2, 4, -1, BIG, -BIG):
            self.assertEqual(script.sees(read_word(word)), [-6])
        self.assertEqual(script.sees(read_word(3)), [0, 0, 8, 1, 3, 0, 9, 1])

    def test_without_an_affair(self):
        for word in (0, 1, -1, BIG, -BIG):
            self.assertEqual(last(read_word(word)), [-6])
            self.assertEqual(last(new(), say(0, 0), clear(), read_word(word)), [-6])

    def test_behind_a_second_affair(self):
        script = Script(new(), say(0, 0), lose(0), new(turns=5), say(0, 1))
        self.assertEqual(script.sees(read_word(0)), [-6])
        self.assertEqual(script.sees(read_word(1)), [0, 1, 5, 0])


class Counts(unittest.TestCase):

    def test_made_on_the_line_came_and_lost(self):
        script = Script(new(k=2))
        self.assertEqual(script.sees(read_counts()), [0, 0, 0, 0])
        seen = []
        for call in (say(0, 0), double(0), double(0), deliver(0), lose(1), lose(3), lose(2), deliver(9), lose(9),
                     double(9), mute(0, 8), deliver(2)):
            script.do(call)
            seen.append(script.sees(read_counts()))
        self.assertEqual(seen, [[1, 1, 0, 0], [2, 2, 0, 0], [3, 3, 0, 0], [4, 3, 1, 0], [4, 2, 1, 1], [4, 1, 1, 2],
                                [4, 1, 1, 2], [4, 1, 1, 2], [4, 1, 1, 2], [4, 1, 1, 2], [4, 1, 1, 2], [4, 0, 2, 2]])

    def test_an_answer_that_comes_counts_though_nothing_follows(self):
        script = Script(new(), say(0, 0), say(0, 0), deliver(0), deliver(1), deliver(2), deliver(3))
        self.assertEqual(script.sees(read_counts()), [4, 0, 4, 0])

    def test_without_an_affair(self):
        self.assertEqual(last(read_counts()), [0, 0, 0, 0])
        self.assertEqual(last(clear(), read_counts()), [0, 0, 0, 0])

    def test_they_go_on_with_a_new_affair_but_not_behind_clear(self):
        script = Script(new(), say(0, 0), say(0, 0), lose(0), mute(0, 8), deliver(1), new(n=3))
        self.assertEqual(script.sees(read_counts()), [2, 0, 1, 1])
        self.assertEqual(script.do(say(0, 2)), [2, 8])
        self.assertEqual(script.sees(read_counts()), [3, 1, 1, 1])
        script.do(clear())
        self.assertEqual(script.sees(read_counts()), [0, 0, 0, 0])
        script.do(new())
        self.assertEqual(script.do(say(0, 0)), [0, 8])
        self.assertEqual(script.sees(read_counts()), [1, 1, 0, 0])


if __name__ == "__main__":
    unittest.main()
