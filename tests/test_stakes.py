"""Stakes, the purse and who is out, as the calls host and affair tell; how disputes end thereby."""

import unittest

from tests.helper import (BIG, LIE, OTHER_LIE, Script, close, deliver, double, honest, hush, in_dispute, last, lie,
                          lose, mute, new, pair, read_affair, read_dispute, read_host, say)


def stakes_and_purse(script):
    seen = script.sees(read_affair())
    return [script.sees(read_host(host))[0] for host in range(seen[2])], seen[7]


def ends(script):
    disputes = script.sees(read_affair())[4]
    return [tuple(script.sees(read_dispute(number))[9:]) for number in range(1, disputes + 1)]


def outs(script):
    return [script.sees(read_host(host))[1] for host in range(script.sees(read_affair())[2])]


def says_two_things(script, dispute, host, turn, state):
    """The host answers the question twice, and the second time with this state."""
    word = script.do(say(dispute, host))[0]
    script.do(double(word))
    script.do(deliver(word))
    script.do(deliver(word + 2))
    script.do(lie(host, turn, state))
    script.do(deliver(word + 1))
    script.do(deliver(word + 3))


def is_hushed(script, dispute, host, turn):
    script.do(mute(host, turn))
    word = script.do(say(dispute, host))[0]
    script.do(deliver(word))
    return script.do(hush(dispute, host))


class Host(unittest.TestCase):

    def test_as_it_begins(self):
        for n in (2, 6):
            for stake in (0, 1, 999, 1000):
                for host in range(n):
                    self.assertEqual(last(new(n=n, stake=stake), read_host(host)), [stake, 0, 0, 0, 0])

    def test_no_such_host(self):
        for n in (2, 6):
            for host in (-1, n, BIG, -BIG):
                self.assertEqual(last(new(n=n), read_host(host)), [-1])

    def test_how_much_it_was_told(self):
        script = Script(new(n=3))
        told = []
        for call in (mute(1, 3), lie(1, 3, LIE), lie(1, 3, LIE), mute(1, 8), lie(2, 8, LIE), lie(1, 9, LIE),
                     honest(1, 4), honest(1, 3), honest(1, 8), mute(1, 3)):
            script.do(call)
            told.append(script.sees(read_host(1))[2])
        self.assertEqual(told, [1, 2, 3, 4, 4, 4, 4, 1, 0, 1])
        self.assertEqual(script.sees(read_host(2)), [10, 0, 1, 0, 0])
        self.assertEqual(script.sees(read_host(0)), [10, 0, 0, 0, 0])

    def test_how_often_it_was_asked_in_the_opening(self):
        script = Script(new(k=1, n=3), say(0, 1), say(0, 1), double(0), lose(1), say(0, 2))
        self.assertEqual([script.sees(read_host(host))[3] for host in range(3)], [0, 2, 1])
        for word in (0, 2, 3, 4, 5):
            script.do(deliver(word))
        # Heard already, so refused and not counted.
        self.assertEqual(script.do(say(0, 1)), [-4])
        self.assertEqual([script.sees(read_host(host))[3] for host in range(3)], [0, 2, 1])

    def test_asking_in_a_dispute_is_not_asking_in_the_opening(self):
        script = in_dispute()
        script.do(say(1, 0))
        script.do(say(1, 0))
        self.assertEqual([script.sees(read_host(host))[3] for host in range(3)], [1, 1, 1])
        self.assertEqual(script.sees(read_dispute(1))[5:7], [2, 0])

    def test_how_many_open_disputes_it_has(self):
        script = Script(new(n=4, k=0), lie(0, 8, LIE), lie(1, 8, OTHER_LIE)).all_heard(4)
        opened = []
        for hosts in ((0, 1), (2, 0), (3, 0), (1, 3)):
            script.do(pair(*hosts))
            opened.append([script.sees(read_host(host))[4] for host in range(4)])
        self.assertEqual(opened, [[1, 1, 0, 0], [2, 1, 1, 0], [3, 1, 1, 1], [3, 2, 1, 2]])
        self.assertEqual(is_hushed(script, 2, 0, 4), [0])
        self.assertEqual([script.sees(read_host(host))[4] for host in range(4)], [0, 1, 0, 1])

    def test_a_host_that_is_out(self):
        script = in_dispute(k=0)
        self.assertEqual(is_hushed(script, 1, 0, 4), [0])
        self.assertEqual(script.sees(read_host(0)), [0, 1, 2, 1, 0])
        self.assertEqual(script.do(lie(0, 1, LIE)), [3])
        self.assertEqual(script.sees(read_host(0)), [0, 1, 3, 1, 0])


class Affair(unittest.TestCase):

    def test_as_it_begins(self):
        for turns, k, n in ((1, 0, 2), (2000, 5, 6), (7, 3, 4)):
            self.assertEqual(last(new(turns=turns, k=k, n=n, stake=9), read_affair()),
                             [turns, k, n, n, 0, 0, 0, 0, 0, 0])

    def test_as_it_goes_on(self):
        script = Script(new(turns=2, k=1, n=3, stake=7), lie(0, 2, LIE), say(0, 1), lose(0)).all_heard(3)
        self.assertEqual(script.sees(read_affair()), [2, 1, 3, 3, 0, 0, 1, 0, 0, 3])
        script.do(pair(0, 1))
        script.do(pair(0, 2))
        self.assertEqual(script.sees(read_affair()), [2, 1, 3, 3, 2, 2, 1, 0, 0, 3])
        script.hears(1, 0)
        self.assertEqual(script.sees(read_affair()), [2, 1, 3, 3, 2, 2, 1, 0, 0, 4])
        script.hears(2, 2)
        self.assertEqual(script.sees(read_affair()), [2, 1, 3, 2, 2, 0, 1, 4, 0, 5])
        self.assertEqual(ends(script), [(4, 0), (1, 1)])
        script.do(close())
        self.assertEqual(script.sees(read_affair()), [2, 1, 3, 2, 2, 0, 1, 4, 1, 5])

    def test_only_words_of_the_opening_count_as_lost_there(self):
        script = in_dispute(k=2)
        for dispute, host in ((1, 0), (1, 1)):
            script.do(lose(script.do(say(dispute, host))[0]))
        self.assertEqual(script.sees(read_affair())[6], 0)
        script = Script(new(k=2), say(0, 0), double(0), deliver(0), lose(1), lose(2))
        self.assertEqual(script.sees(read_affair())[6], 2)
        script.do(say(0, 0))
        self.assertEqual(script.do(lose(3)), [-7])
        self.assertEqual(script.sees(read_affair())[6], 2)

    def test_how_much_was_heard(self):
        script = Script(new(n=3), say(0, 0), double(0), double(0), deliver(0), deliver(3))
        self.assertEqual(script.sees(read_affair())[9], 1)
        # The same once more is not kept, nor is another state, nor what comes when the host is out.
        script.do(deliver(1))
        script.do(deliver(4))
        self.assertEqual(script.sees(read_affair())[9], 1)
        script.do(double(2))
        script.do(lie(0, 8, LIE))
        script.do(deliver(2))
        script.do(deliver(6))
        self.assertEqual((script.sees(read_affair())[9], outs(script)), (1, [1, 0, 0]))
        script.do(deliver(5))
        script.do(deliver(7))
        self.assertEqual((script.sees(read_affair())[9], outs(script)), (1, [1, 0, 0]))
        script.hears(0, 1)
        self.assertEqual(script.sees(read_affair())[9], 2)

    def test_none_is_in(self):
        script = Script(new(k=0, stake=5))
        for host in (0, 1):
            self.assertEqual(is_hushed(script, 0, host, 8), [host])
        self.assertEqual(script.sees(read_affair()), [8, 0, 2, 0, 0, 0, 0, 10, 0, 0])


class OneIsWrong(unittest.TestCase):

    def test_half_goes_to_the_other_and_the_rest_into_the_purse(self):
        for stake, half, rest in ((0, 0, 0), (1, 0, 1), (2, 1, 1), (7, 3, 4), (999, 499, 500), (1000, 500, 500)):
            for liar in (0, 1):
                script = Script(new(turns=1, n=3, stake=stake), lie(liar, 1, LIE)).all_heard(3)
                script.do(pair(0, 1))
                expected = [stake, stake, stake]
                expected[liar] = 0
                expected[1 - liar] = stake + half
                self.assertEqual(stakes_and_purse(script), (expected, rest))
                self.assertEqual(ends(script), [(1, liar + 1)])
                self.assertEqual(outs(script), [int(host == liar) for host in range(3)])

    def test_one_host_wins_from_several(self):
        script = Script(new(turns=1, n=3, stake=7), lie(0, 1, LIE), lie(1, 1, OTHER_LIE)).all_heard(3)
        script.do(pair(0, 2))
        self.assertEqual(stakes_and_purse(script), ([0, 7, 10], 4))
        script.do(pair(2, 1))
        self.assertEqual(stakes_and_purse(script), ([0, 0, 13], 8))
        self.assertEqual(ends(script), [(1, 1), (1, 2)])
        self.assertEqual(script.do(close()), [1, 3, 0, 2, 1])

    def test_a_winner_that_is_put_out_later_loses_what_it_won(self):
        # Both lie in the end; host 0 is silent against host 1, which then loses 10 against host 2.
        script = Script(new(turns=2, n=3, k=0, stake=7), lie(0, 2, LIE), lie(1, 2, OTHER_LIE)).all_heard(3)
        script.do(pair(0, 1))
        self.assertEqual(is_hushed(script, 1, 0, 1), [0])
        self.assertEqual(stakes_and_purse(script), ([0, 10, 7], 4))
        script.do(pair(2, 1))
        script.hears(2, 1)
        script.hears(2, 2)
        self.assertEqual(stakes_and_purse(script), ([0, 0, 12], 9))
        self.assertEqual(ends(script), [(3, 0), (1, 2)])

    def test_a_winner_may_lose_it_all_into_the_purse(self):
        script = Script(new(turns=1, n=3, k=0, stake=7), lie(0, 1, LIE), lie(1, 1, OTHER_LIE))
        word = script.do(say(0, 2))[0]
        script.do(double(word))
        for number in (0, 2):
            script.do(deliver(number))
        script.hears(0, 0)
        script.do(pair(2, 0))
        self.assertEqual(stakes_and_purse(script), ([0, 7, 10], 4))
        script.do(lie(2, 1, LIE))
        script.do(deliver(1))
        script.do(deliver(5))
        self.assertEqual(stakes_and_purse(script), ([0, 7, 0], 14))
        self.assertEqual((outs(script), ends(script)), ([1, 0, 1], [(1, 2)]))


class BothAreWrong(unittest.TestCase):

    def test_all_goes_into_the_purse(self):
        for stake in (0, 1, 7, 1000):
            script = Script(new(turns=1, n=3, stake=stake), lie(0, 1, LIE), lie(1, 1, OTHER_LIE)).all_heard(3)
            script.do(pair(1, 0))
            self.assertEqual(stakes_and_purse(script), ([0, 0, stake], 2 * stake))
            self.assertEqual(ends(script), [(1, 3)])
            self.assertEqual(outs(script), [1, 1, 0])

    def test_their_other_disputes_are_left_with_who_is_out(self):
        script = Script(new(turns=2, n=4, stake=7), lie(0, 1, LIE), lie(0, 2, LIE), lie(1, 1, OTHER_LIE),
                        lie(1, 2, OTHER_LIE)).all_heard(4)
        for hosts in ((2, 0), (0, 3), (0, 1), (1, 2), (3, 1)):
            script.do(pair(*hosts))
        script.hears(3, 0)
        script.hears(3, 1)
        self.assertEqual(ends(script), [(4, 0), (4, 0), (1, 3), (4, 1), (4, 1)])
        self.assertEqual(stakes_and_purse(script), ([0, 0, 7, 7], 14))


class Twice(unittest.TestCase):

    def test_without_an_open_dispute_all_goes_into_the_purse(self):
        for stake in (0, 7, 1000):
            script = Script(new(stake=stake))
            says_two_things(script, 0, 0, 8, LIE)
            self.assertEqual(stakes_and_purse(script), ([0, stake], stake))
            self.assertEqual(outs(script), [1, 0])

    def test_the_first_open_dispute_ends_so_and_the_others_are_left(self):
        script = Script(new(n=5, stake=7), lie(0, 8, LIE), lie(4, 8, OTHER_LIE)).all_heard(5)
        for hosts in ((1, 4), (2, 0), (0, 3), (0, 4)):
            script.do(pair(*hosts))
        # What is heard twice was asked in dispute 3, but dispute 2 is the host's first one.
        says_two_things(script, 3, 0, 4, LIE)
        self.assertEqual(ends(script), [(0, 0), (2, 0), (4, 0), (4, 0)])
        self.assertEqual(stakes_and_purse(script), ([0, 7, 10, 7, 7], 4))

    def test_of_the_first_host_and_of_the_second(self):
        for host in (0, 1):
            script = in_dispute()
            says_two_things(script, 1, host, 4, LIE)
            self.assertEqual(ends(script), [(2, host)])
            expected = [15, 15, 10]
            expected[host] = 0
            self.assertEqual(stakes_and_purse(script), (expected, 5))

    def test_a_dispute_that_has_ended_does_not_count(self):
        script = Script(new(n=3, turns=2, stake=7, k=0), lie(0, 2, LIE)).all_heard(3)
        script.do(pair(0, 1))
        self.assertEqual(is_hushed(script, 1, 1, 1), [1])
        script.do(pair(0, 2))
        says_two_things(script, 2, 0, 1, LIE)
        self.assertEqual(ends(script), [(3, 1), (2, 0)])
        self.assertEqual(stakes_and_purse(script), ([0, 0, 12], 9))


class Silent(unittest.TestCase):

    def test_in_the_opening_all_goes_into_the_purse(self):
        for stake in (0, 7, 1000):
            script = Script(new(k=0, stake=stake))
            self.assertEqual(is_hushed(script, 0, 0, 8), [0])
            self.assertEqual(stakes_and_purse(script), ([0, stake], stake))
            self.assertEqual(outs(script), [1, 0])

    def test_in_a_dispute_half_goes_to_the_other(self):
        for host in (0, 1):
            script = Script(new(k=0, n=3, stake=7), lie(0, 8, LIE), lie(1, 8, OTHER_LIE)).all_heard(3)
            for hosts in ((2, host), (0, 1)):
                script.do(pair(*hosts))
            self.assertEqual(is_hushed(script, 2, host, 4), [host])
            expected = [10, 10, 7]
            expected[host] = 0
            self.assertEqual(stakes_and_purse(script), (expected, 4))
            self.assertEqual(ends(script), [(4, host), (3, host)])


class Left(unittest.TestCase):

    def test_nobody_wins_by_it(self):
        script = Script(new(n=4, k=0, stake=8), lie(0, 8, LIE)).all_heard(4)
        for hosts in ((1, 0), (0, 2), (3, 0)):
            script.do(pair(*hosts))
        self.assertEqual(is_hushed(script, 2, 0, 4), [0])
        self.assertEqual(ends(script), [(4, 0), (3, 0), (4, 0)])
        self.assertEqual(stakes_and_purse(script), ([0, 8, 12, 8], 4))

    def test_it_stays_as_it_was_when_the_dispute_ended(self):
        script = Script(new(n=3, k=0, stake=8), lie(0, 8, LIE), lie(1, 8, OTHER_LIE)).all_heard(3)
        for hosts in ((0, 1), (1, 2), (0, 2)):
            script.do(pair(*hosts))
        self.assertEqual(is_hushed(script, 2, 1, 4), [1])
        self.assertEqual(ends(script), [(4, 1), (3, 1), (0, 0)])
        # Now the first host of dispute 1 is out too.
        self.assertEqual(is_hushed(script, 3, 0, 4), [0])
        self.assertEqual(ends(script), [(4, 1), (3, 1), (3, 0)])
        self.assertEqual(stakes_and_purse(script), ([0, 0, 16], 8))


class WhenTheEndIsFound(unittest.TestCase):

    def test_nobody_is_put_out(self):
        script = Script(new(stake=7), say(0, 0), double(0), say(0, 1), deliver(0), deliver(2), deliver(3), deliver(4),
                        close(), lie(0, 8, LIE), deliver(1), deliver(5))
        self.assertEqual(stakes_and_purse(script), ([7, 7], 0))
        self.assertEqual((outs(script), script.sees(read_affair())[8:]), ([0, 0], [1, 2]))


if __name__ == "__main__":
    unittest.main()
