"""How calls are handed in and answers are given back."""

import contextlib
import io
import unittest

from halvedruns.judge import answers
from tests.helper import (BIG, ask, clear, close, deliver, double, honest, hush, lie, lose, mute, new, pair,
                          read_affair, read_agreed, read_counts, read_dispute, read_host, readings, say)

EXAMPLE = [
    new(), lie(1, 5, (0, 99, 1)), lie(1, 6, (0, 99, 1)), lie(1, 7, (0, 99, 1)), lie(1, 8, (0, 99, 1)),
    say(0, 0), say(0, 1), deliver(0), deliver(1), deliver(2), deliver(3), pair(0, 1),
    say(1, 0), say(1, 1), deliver(4), deliver(5), deliver(6), deliver(7),
    say(1, 0), say(1, 1), deliver(8), deliver(9), deliver(10), deliver(11),
    say(1, 0), say(1, 1), deliver(12), deliver(13), deliver(14), deliver(15),
    say(0, 1), say(1, 0), close(),
]
EXAMPLE_ANSWERS = [
    [2], [1], [2], [3], [4],
    [0, 8], [1, 8], [2], [2], [1], [0], [1],
    [4, 4], [5, 4], [2], [2], [1], [0],
    [8, 6], [9, 6], [2], [2], [1], [0],
    [12, 5], [13, 5], [2], [2], [1], [0],
    [-10], [-3], [1, 3, 0, 9, 1],
]

# With every call there is.
ALL_CALLS = EXAMPLE + readings(turns=8) + [new(), mute(0, 3), honest(0, 3), say(0, 0), double(0), lose(0), hush(0, 0),
                                           clear()]


def flat(calls):
    return [number for call in calls for number in call]


class Untouchable(list):
    """A list that tells of any change to it, even one that is undone again."""

    def refuse(self, *args, **kwargs):
        raise AssertionError("what was handed in was changed")

    append = extend = insert = pop = remove = clear = sort = reverse = refuse
    __setitem__ = __delitem__ = __iadd__ = __imul__ = refuse


class Interface(unittest.TestCase):

    def test_the_documents_example(self):
        self.assertEqual(ask(*EXAMPLE), EXAMPLE_ANSWERS)

    def test_an_answer_stands_behind_how_many_numbers_it_has(self):
        calls = flat([clear(), new(turns=1), say(0, 0), say(0, 1), deliver(0), deliver(1), deliver(2),
                      deliver(3), close(), close()])
        self.assertEqual(answers(calls), [
            1, 0, 1, 2, 2, 0, 1, 2, 1, 1, 1, 2, 1, 2, 1, 1, 1, 0, 5, 2, 3, 0, 2, 1, 1, -3])

    def test_the_answer_is_a_list_of_whole_numbers(self):
        given = answers(flat(ALL_CALLS))
        self.assertIs(type(given), list)
        self.assertEqual({type(number) for number in given}, {int})

    def test_what_is_handed_in_is_not_changed(self):
        calls = Untouchable(flat(ALL_CALLS))
        before = list(calls)
        answers(calls)
        self.assertEqual(list(calls), before)

    def test_a_second_time_answers_as_the_first(self):
        calls = flat(ALL_CALLS)
        first = answers(calls)
        kept = list(first)
        answers(flat([new(turns=3, n=6), say(0, 5), say(0, 4)]))
        self.assertEqual(answers(calls), kept)
        first.append(7)
        self.assertEqual(answers(calls), kept)

    def test_each_time_begins_without_affair_and_words(self):
        answers(flat([new(), say(0, 0)]))
        self.assertEqual(ask(double(0), say(0, 0)), [[-6], [-2]])

    def test_nothing_is_printed(self):
        out = io.StringIO()
        with contextlib.redirect_stdout(out), contextlib.redirect_stderr(out):
            answers(flat(ALL_CALLS))
        self.assertEqual(out.getvalue(), "")

    def test_every_call_is_among_all_calls(self):
        self.assertEqual(sorted({call[0] for call in ALL_CALLS}), list(range(23)))

    def test_the_documents_example_looked_at(self):
        self.assertEqual(ask(*EXAMPLE, read_dispute(1), read_agreed(1), read_host(0), read_host(1), read_affair(),
                             read_counts())[len(EXAMPLE):],
                         [[5, 0, 1, 4, 5, 1, 1, 3, 0, 1, 2], [4, 3, 0, 5, 1], [15, 0, 0, 1, 0], [0, 1, 4, 1, 0],
                          [8, 1, 2, 1, 1, 0, 0, 5, 1, 8], [16, 0, 16, 0]])

    def test_without_an_affair(self):
        for wrong in (0, -1, 7, BIG, -BIG):
            calls = [lie(wrong, wrong, ()), mute(wrong, wrong), honest(wrong, wrong), pair(wrong, wrong),
                     say(wrong, wrong), deliver(wrong), lose(wrong), hush(wrong, wrong), close()]
            self.assertEqual(ask(*calls), [[-2]] * len(calls))
            self.assertEqual(ask(double(wrong)), [[-6]])
        self.assertEqual(ask(clear()), [[0]])
        self.assertEqual(ask(new()), [[2]])

    def test_four_hundred_calls(self):
        calls = [new(turns=2000), say(0, 0), deliver(0), deliver(1)]
        for number in range(99):
            calls += [new(turns=2000), say(0, 0), deliver(2 * number + 2), deliver(2 * number + 3)]
        given = ask(*calls)
        self.assertEqual(len(given), 400)
        self.assertEqual(given[-4:], [[2], [198, 2000], [1], [0]])

    def test_many_rows_at_their_longest(self):
        call = new(program=(BIG,) * 100, first=(-BIG,) * 20)
        self.assertEqual(ask(*[call] * 130), [[-1]] * 130)


if __name__ == "__main__":
    unittest.main()
