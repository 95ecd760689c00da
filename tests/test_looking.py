"""What all the calls that only look have in common: no affair, clear, a second affair, and no change."""

import unittest

from halvedruns.judge import answers
from tests.helper import (BIG, LIE, OTHER_LIE, Script, ask, clear, close, deliver, double, honest, hush, last, lie,
                          lose, mute, new, pair, read_affair, read_agreed, read_counts, read_dispute, read_heard,
                          read_host, read_line, read_says, read_truth, read_word, readings, say, work)

WILD = (0, 1, -1, 7, BIG, -BIG)


def needing_an_affair(wild):
    return [read_dispute(wild), read_agreed(wild), read_truth(wild), read_heard(wild, wild), read_says(wild, wild),
            read_host(wild), read_affair(), work(()), work((0, 1, 1)), work((wild,) * 20)]


def busy():
    """An affair of three turns with words on the line, a dispute that's open and one that has ended."""
    return [new(turns=3, n=3, k=1, stake=7), lie(0, 3, LIE), lie(1, 3, OTHER_LIE), lie(1, 1, LIE), mute(2, 0),
            say(0, 0), double(0), say(0, 1), say(0, 2), deliver(0), deliver(2), deliver(3), deliver(4), deliver(5),
            deliver(6), lose(1), pair(0, 1), pair(1, 2), pair(2, 0), say(1, 0), say(1, 1), say(1, 1), deliver(7),
            deliver(10), deliver(8), double(11), say(2, 2), deliver(11), deliver(9), honest(1, 1), mute(1, 1),
            hush(2, 1), close(), new(), deliver(99)]


class NoAffair(unittest.TestCase):

    def test_at_the_beginning(self):
        for wild in WILD:
            calls = needing_an_affair(wild)
            self.assertEqual(ask(*calls), [[-2]] * len(calls))
            self.assertEqual(ask(read_line(), read_word(wild), read_counts()), [[0, 0], [-6], [0, 0, 0, 0]])

    def test_behind_clear(self):
        for wild in WILD:
            calls = needing_an_affair(wild) + [read_line(), read_word(wild), read_counts()]
            given = ask(*busy(), clear(), *calls)[len(busy()) + 1:]
            self.assertEqual(given, [[-2]] * (len(calls) - 3) + [[0, 0], [-6], [0, 0, 0, 0]])

    def test_behind_a_new_that_is_refused(self):
        calls = needing_an_affair(0)
        self.assertEqual(ask(new(turns=0), new(program=()), *calls)[2:], [[-2]] * len(calls))

    def test_looking_makes_no_affair(self):
        self.assertEqual(ask(*needing_an_affair(0), read_line(), read_counts(), say(0, 0), new())[-2:], [[-2], [2]])


class SecondAffair(unittest.TestCase):

    def begin(self):
        """All words of the busy affair come or are lost; then there's another one."""
        script = Script(*busy())
        for word in script.sees(read_line())[2:]:
            script.do(deliver(word))
        while script.sees(read_line())[0]:
            script.do(deliver(script.sees(read_line())[2]))
        return script

    def test_words_and_counts_go_on(self):
        script = self.begin()
        before = script.sees(read_counts())
        self.assertEqual(before[1], 0)
        self.assertEqual(before[0], before[2] + before[3])
        self.assertEqual(script.do(new(turns=5, n=2, k=3, stake=4)), [2])
        self.assertEqual(script.sees(read_counts()), before)
        self.assertEqual(script.sees(read_line()), [0, 0])
        self.assertEqual(script.do(say(0, 1)), [before[0], 5])
        self.assertEqual(script.sees(read_counts()), [before[0] + 1, 1, before[2], before[3]])
        self.assertEqual(script.sees(read_line()), [1, 1, before[0]])
        self.assertEqual(script.sees(read_word(before[0])), [0, 1, 5, 0])

    def test_all_else_is_new(self):
        script = self.begin()
        script.do(new(turns=5, n=2, k=3, stake=4))
        self.assertEqual(script.sees(read_affair()), [5, 3, 2, 2, 0, 0, 0, 0, 0, 0])
        for host in (0, 1):
            self.assertEqual(script.sees(read_host(host)), [4, 0, 0, 0, 0])
            for turn in range(6):
                self.assertEqual(script.sees(read_heard(host, turn)), [-6])
                self.assertEqual(script.sees(read_says(host, turn)), script.sees(read_truth(turn)))
        self.assertEqual(script.sees(read_host(2)), [-1])
        for number in range(4):
            self.assertEqual(script.sees(read_dispute(number)), [-6])
            self.assertEqual(script.sees(read_agreed(number)), [-6])
        self.assertEqual(script.sees(read_truth(5)), [5, 3, 0, 6, 1])
        self.assertEqual(script.sees(read_truth(6)), [-1])

    def test_it_may_have_other_orders_and_numbers(self):
        script = self.begin()
        script.do(new(turns=1, program=(7, 0, 0, 0) * 2, first=(3,)))
        self.assertEqual(script.sees(read_truth(1)), [1, 2, 1, 3])
        self.assertEqual(script.sees(read_says(1, 1)), [1, 2, 1, 3])
        self.assertEqual(script.sees(work((1, 999))), [0, 2, 0, 999])
        self.assertEqual(script.sees(work((0, 1, 1))), [-1])

    def test_a_refused_one_changes_nothing(self):
        script = Script(*busy())
        before = ask(*script.calls, *readings())[len(script.calls):]
        for refused in (new(), new(turns=0), new(program=()), new(first=()), new(n=7)):
            self.assertLess(script.do(refused)[0], 0)
        self.assertEqual(ask(*script.calls, *readings())[len(script.calls):], before)


class NoChange(unittest.TestCase):

    def test_what_is_looked_at_between_calls_changes_no_answer(self):
        calls = busy()
        plain = ask(*calls)
        between = []
        for call in calls:
            between += [call] + readings()
        self.assertEqual(ask(*between)[::len(readings()) + 1], plain)

    def test_each_by_itself_changes_nothing(self):
        calls = busy()
        everything = readings(disputes=4, words=14)
        before = ask(*calls, *everything)[len(calls):]
        for looking in everything:
            self.assertEqual(ask(*calls, looking, *everything)[len(calls) + 1:], before)

    def test_a_second_look_is_as_the_first(self):
        calls = busy()
        given = ask(*calls, *readings(), *readings())[len(calls):]
        self.assertEqual(given[:len(readings())], given[len(readings()):])

    def test_a_row_given_back_is_not_the_one_that_is_kept(self):
        calls = [number for call in busy() + readings() for number in call]
        first = answers(calls)
        kept = list(first)
        first.clear()
        self.assertEqual(answers(calls), kept)

    def test_the_busy_affair_is_busy(self):
        # So that the tests above don't become empty.
        script = Script(*busy())
        self.assertEqual(script.sees(read_affair()), [3, 1, 3, 2, 3, 1, 1, 4, 0, 5])
        self.assertEqual([script.sees(read_dispute(number)) for number in (1, 2, 3)],
                         [[1, 0, 1, 0, 1, 1, 2, 1, 0, 1, 2], [1, 1, 2, 0, 3, 0, 1, 1, 0, 4, 1],
                          [1, 2, 0, 0, 3, 0, 0, 1, 0, 0, 0]])
        self.assertEqual(script.sees(read_line()), [3, 3, 12, 13, 14])


class LongLines(unittest.TestCase):

    def test_four_hundred_calls(self):
        calls = [new(turns=2000, n=6)]
        while len(calls) < 400:
            calls += [read_truth(2000), read_says(5, 1999), read_host(5), read_affair(), read_counts(), read_line(),
                      read_heard(0, 2000)]
        given = ask(*calls[:400])
        self.assertEqual(len(given), 400)
        self.assertEqual(given[1:8], [[2000, 3, 0, 1, 1], [1999, 3, 0, 0, 1], [10, 0, 0, 0, 0],
                                      [2000, 1, 6, 6, 0, 0, 0, 0, 0, 0], [0, 0, 0, 0], [0, 0], [-6]])
        self.assertEqual(given[1:], (given[1:8] * 57)[:399])

    def test_four_hundred_calls_with_long_runs(self):
        calls = [new(turns=2000), read_truth(2000)] * 200
        self.assertEqual(ask(*calls), [[2], [2000, 3, 0, 1, 1]] * 200)

    def test_four_hundred_calls_with_a_full_line(self):
        calls = [new()] + [say(0, 0)] * 60 + [read_line()] * 339
        self.assertEqual(ask(*calls)[61:], [[60, 60, *range(60)]] * 339)

    def test_the_greatest_numbers_either_way(self):
        for wild in (BIG, -BIG, BIG - 1, 1 - BIG):
            calls = [read_word(wild), read_dispute(wild), read_agreed(wild), read_truth(wild), read_heard(wild, 0),
                     read_heard(0, wild), read_says(wild, 0), read_says(0, wild), read_host(wild), work((wild,) * 20),
                     work((wild, 1, 1)), work((0, wild, 1)), work((0, 1, wild))]
            self.assertEqual(ask(*busy(), *calls)[len(busy()):], [[-6]] * 3 + [[-1]] * 10)

    def test_many_rows_at_their_longest(self):
        self.assertEqual(ask(new(), *[work((BIG,) * 20)] * 399)[1:], [[-1]] * 399)


class Refusals(unittest.TestCase):

    def test_a_refusal_is_one_number_alone(self):
        given = answers([number for call in [new(), read_word(0), read_dispute(0), read_agreed(0), read_truth(-1),
                                             read_heard(0, 0), read_heard(2, 0), mute(0, 0), read_says(0, 0),
                                             read_says(0, 9), read_host(2), work(())] for number in call])
        self.assertEqual(given, [1, 2, 1, -6, 1, -6, 1, -6, 1, -1, 1, -6, 1, -1, 1, 1, 1, -6, 1, -1, 1, -1, 1, -1])

    def test_no_other_answer_has_a_number_below_0(self):
        for told in ask(*busy(), *readings()):
            self.assertTrue(min(told) >= 0 or len(told) == 1, told)

    def test_the_answers_numbers_are_whole_numbers(self):
        given = answers([number for call in busy() + readings() for number in call])
        self.assertEqual({type(number) for number in given}, {int})

    def test_after_the_end_is_found_looking_is_not_refused(self):
        script = Script(new(n=2)).all_heard(2)
        script.do(close())
        self.assertEqual(script.sees(read_affair()), [8, 1, 2, 2, 0, 0, 0, 0, 1, 2])
        self.assertEqual(script.sees(read_host(1)), [10, 0, 0, 1, 0])
        self.assertEqual(script.sees(read_says(1, 8)), [8, 3, 0, 9, 1])
        self.assertEqual(script.sees(read_heard(1, 8)), [8, 3, 0, 9, 1])
        self.assertEqual(script.sees(work((0, 9, 1))), [0, 3, 0, 10, 1])
        self.assertEqual(last(*script.calls, read_line()), [0, 0])


if __name__ == "__main__":
    unittest.main()
