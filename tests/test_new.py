"""The calls clear and new."""

import unittest

from tests.helper import (BIG, COUNTING, Script, ask, clear, close, deliver, double, hush, last, lie, lose, mute, new,
                          pair, say)

JUST_RIGHT = {"turns": (1, 2000), "k": (0, 5), "n": (2, 6), "stake": (0, 1000)}


class Clear(unittest.TestCase):

    def test_all_is_as_at_the_beginning(self):
        self.assertEqual(
            ask(new(), say(0, 0), clear(), double(0), say(0, 0), new(n=3), say(0, 2)),
            [[2], [0, 8], [0], [-6], [-2], [3], [0, 8]])

    def test_what_was_told_and_heard_is_gone(self):
        script = Script(new()).all_heard(2)
        script.do(mute(0, 1))
        script.do(clear())
        script.do(new())
        self.assertEqual(script.do(pair(0, 1)), [-4])
        self.assertEqual(script.do(mute(0, 1)), [1])


class New(unittest.TestCase):

    def test_ends_of_the_ranges(self):
        for name, (low, high) in JUST_RIGHT.items():
            for value in (low, high):
                call = new(**{name: value})
                self.assertEqual(ask(call), [[value if name == "n" else 2]], (name, value))
            for value in (low - 1, high + 1, -BIG, BIG):
                self.assertEqual(ask(new(**{name: value})), [[-1]], (name, value))

    def test_as_many_hosts_as_told(self):
        for n in range(2, 7):
            self.assertEqual(ask(new(n=n), mute(n - 1, 0), mute(n, 0))[1:], [[1], [-1]])

    def test_as_many_turns_as_told(self):
        for turns in (1, 2, 2000):
            self.assertEqual(ask(new(turns=turns), say(0, 0), mute(0, turns), mute(0, turns + 1))[1:],
                             [[0, turns], [1], [-1]])

    def test_rows_of_a_program(self):
        order = (7, 999, 999, 999)
        for orders in (1, 2, 19, 20):
            self.assertEqual(ask(new(program=order * orders)), [[2]])
        for program in ((), order * 21, order * 25, (7,), (7, 0), (7, 0, 0), order + (7,), order * 20 + (7,)):
            self.assertEqual(ask(new(program=program)), [[-1]], program)

    def test_numbers_of_a_program(self):
        for place, most in ((0, 7), (1, 999), (2, 999), (3, 999)):
            for value in (0, most):
                program = [0, 0, 0, 0, 7, 0, 0, 0]
                program[4 + place] = value
                self.assertEqual(ask(new(program=program)), [[2]])
            for value in (-1, most + 1, BIG, -BIG):
                for at in (place, 4 + place):
                    program = [0, 0, 0, 0, 7, 0, 0, 0]
                    program[at] = value
                    self.assertEqual(ask(new(program=program)), [[-1]], program)

    def test_numbers_at_the_beginning(self):
        for count in range(1, 7):
            self.assertEqual(ask(new(first=(0,) * count)), [[2]])
            self.assertEqual(ask(new(first=(999,) * count)), [[2]])
            for value in (-1, 1000, BIG, -BIG):
                self.assertEqual(ask(new(first=(0,) * (count - 1) + (value,))), [[-1]])
                self.assertEqual(ask(new(first=(value,) + (0,) * (count - 1))), [[-1]])
        for count in (0, 7, 20):
            self.assertEqual(ask(new(first=(1,) * count)), [[-1]])

    def test_refused_while_words_are_on_the_line(self):
        self.assertEqual(last(new(), say(0, 0), new()), [-3])
        self.assertEqual(last(new(), mute(0, 8), say(0, 0), deliver(0), new()), [2])
        self.assertEqual(last(new(), say(0, 0), lose(0), new()), [2])

    def test_the_first_refusal_told_counts(self):
        busy = (new(), say(0, 0))
        for name in JUST_RIGHT:
            self.assertEqual(last(*busy, new(**{name: -1})), [-1])
        self.assertEqual(last(*busy, new(program=())), [-3])
        self.assertEqual(last(*busy, new(first=())), [-3])
        self.assertEqual(last(*busy, new(turns=0, program=())), [-1])

    def test_a_refusal_changes_nothing(self):
        script = Script(new(n=3), lie(0, 8, (0, 5, 5))).all_heard(3)
        for refused in (new(turns=0), new(program=()), new(first=())):
            self.assertEqual(script.do(refused), [-1])
        script.do(say(0, 9))
        self.assertEqual(script.do(pair(0, 2)), [1])
        script.do(say(1, 0))
        self.assertEqual(script.do(new(n=2)), [-3])
        self.assertEqual(script.do(mute(2, 1)), [1])
        self.assertEqual(script.do(say(1, 2)), [7, 4])

    def test_an_older_affair_is_gone(self):
        script = Script(new(n=3, k=0), lie(0, 8, (0, 5, 5)), mute(0, 7)).all_heard(3)
        script.do(pair(0, 1))
        script.do(lie(0, 4, (0, 1, 1)))
        script.hears(1, 0)
        script.do(mute(1, 4))
        self.assertEqual(script.do(say(1, 1)), [8, 4])
        script.do(deliver(8))
        self.assertEqual(script.do(hush(1, 1)), [1])
        self.assertTrue(script.is_out(1))
        self.assertEqual(script.do(new(turns=4, n=2)), [2])
        self.assertEqual(script.do(say(1, 1)), [-6])
        self.assertEqual(script.do(pair(0, 1)), [-4])
        self.assertEqual(script.do(mute(0, 0)), [1])
        self.assertEqual(script.do(say(0, 1)), [9, 4])

    def test_an_older_affairs_end_is_gone(self):
        script = Script(new()).all_heard(2)
        script.do(close())
        self.assertEqual(script.do(say(0, 0)), [-3])
        script.do(new())
        self.assertEqual(script.do(say(0, 0)), [4, 8])

    def test_the_numbers_of_words_go_on(self):
        self.assertEqual(
            ask(new(), say(0, 0), double(0), lose(1), deliver(0), deliver(2), new(), say(0, 0))[-1], [3, 8])

    def test_losses_of_an_older_affair_do_not_count(self):
        calls = (new(k=1), say(0, 0), lose(0), new(k=1), say(0, 0), lose(1), say(0, 0), lose(2))
        self.assertEqual(ask(*calls)[-3:], [[0], [2, 8], [-7]])

    def test_the_beginnings_place_is_0(self):
        program = (3, 0, 5, 0) + (3, 0, 6, 0) + COUNTING
        script = Script(new(turns=1, program=program)).all_heard(2)
        self.assertEqual(script.do(close()), [2, 3, 1, 5, 1])


if __name__ == "__main__":
    unittest.main()
