"""What no answer of the calls tells yet: stakes, the purse, how disputes end, what is kept of words."""

import unittest

from tests.helper import (LIE, OTHER_LIE, Script, affair_after, ask, bench_after, clear, close, deliver, double,
                          honest, hush, lie, lose, mute, new, pair, say)


def stakes_and_purse(script):
    affair = affair_after(*script.calls)
    return [host.stake for host in affair.hosts], affair.purse


def ends(script):
    return [dispute.ended for dispute in affair_after(*script.calls).disputes]


class OneIsWrong(unittest.TestCase):

    def test_half_goes_to_the_other_and_the_rest_into_the_purse(self):
        for stake, half, rest in ((0, 0, 0), (1, 0, 1), (2, 1, 1), (7, 3, 4), (999, 499, 500), (1000, 500, 500)):
            for liar in (0, 1):
                script = Script(new(turns=1, n=3, stake=stake), lie(liar, 1, LIE)).all_heard(3)
                script.do(pair(0, 1))
                expected = [stake, stake, stake]
                expected[liar] = 0
                expected[1 - liar] = stake + half
                self.assertEqual(stakes_and_purse(script), (expected, rest))
                self.assertEqual(ends(script), [(1, liar + 1)])

    def test_the_stake_that_was_won_is_lost_with_the_rest(self):
        script = Script(new(turns=1, n=3, stake=7), lie(0, 1, LIE), lie(1, 1, OTHER_LIE)).all_heard(3)
        script.do(pair(0, 2))
        script.do(pair(2, 1))
        self.assertEqual(stakes_and_purse(script), ([0, 0, 13], 8))
        self.assertEqual(ends(script), [(1, 1), (1, 2)])
        self.assertEqual(script.do(close()), [1, 3, 0, 2, 1])

    def test_answers_are_alike_with_every_stake(self):
        given = []
        for stake in (0, 1, 7, 10, 1000):
            script = Script(new(turns=1, stake=stake), lie(0, 1, LIE)).all_heard(2)
            script.do(pair(0, 1))
            given.append(ask(*script.calls, close()))
        self.assertEqual(given, [given[0]] * 5)


class BothAreWrong(unittest.TestCase):

    def test_all_goes_into_the_purse(self):
        script = Script(new(turns=1, n=3, stake=7), lie(0, 1, LIE), lie(1, 1, OTHER_LIE)).all_heard(3)
        script.do(pair(1, 0))
        self.assertEqual(stakes_and_purse(script), ([0, 0, 7], 14))
        self.assertEqual(ends(script), [(1, 3)])

    def test_their_other_disputes_are_left_with_who_is_out(self):
        script = Script(new(turns=2, n=4, stake=7), lie(0, 1, LIE), lie(0, 2, LIE), lie(1, 1, OTHER_LIE),
                        lie(1, 2, OTHER_LIE)).all_heard(4)
        for hosts in ((2, 0), (0, 3), (0, 1), (1, 2), (3, 1)):
            script.do(pair(*hosts))
        script.hears(3, 0)
        script.hears(3, 1)
        self.assertEqual(ends(script), [(4, 0), (4, 0), (1, 3), (4, 1), (4, 1)])
        self.assertEqual(stakes_and_purse(script), ([0, 0, 7, 7], 14))


class Twice(unittest.TestCase):

    def test_without_a_dispute_all_goes_into_the_purse(self):
        script = Script(new(stake=7), say(0, 0), double(0), deliver(0), deliver(2), lie(0, 8, LIE), deliver(1),
                        deliver(3))
        self.assertEqual(stakes_and_purse(script), ([0, 7], 7))

    def test_the_first_open_dispute_ends_so_and_the_others_are_left(self):
        script = Script(new(n=5, stake=7), lie(0, 8, LIE), lie(4, 8, OTHER_LIE)).all_heard(5)
        for hosts in ((1, 4), (2, 0), (0, 3), (0, 4)):
            script.do(pair(*hosts))
        # What is heard twice was asked in dispute 3, but dispute 2 is the host's first one.
        word = script.do(say(3, 0))[0]
        script.do(double(word))
        script.do(deliver(word))
        script.do(deliver(word + 2))
        script.do(lie(0, 4, LIE))
        script.do(deliver(word + 1))
        script.do(deliver(word + 3))
        self.assertEqual(ends(script), [(0, 0), (2, 0), (4, 0), (4, 0)])
        self.assertEqual(stakes_and_purse(script), ([0, 7, 10, 7, 7], 4))

    def test_a_dispute_that_has_ended_does_not_count(self):
        script = Script(new(n=3, turns=2, stake=7, k=0), lie(0, 2, LIE)).all_heard(3)
        script.do(pair(0, 1))
        script.do(mute(1, 1))
        script.do(say(1, 1))
        script.do(deliver(6))
        script.do(hush(1, 1))
        script.do(pair(0, 2))
        script.do(say(2, 0))
        script.do(double(7))
        script.do(deliver(7))
        script.do(deliver(9))
        script.do(lie(0, 1, LIE))
        script.do(deliver(8))
        script.do(deliver(10))
        self.assertEqual(ends(script), [(3, 1), (2, 0)])
        self.assertEqual(stakes_and_purse(script), ([0, 0, 12], 9))


class Silent(unittest.TestCase):

    def test_in_the_opening_all_goes_into_the_purse(self):
        script = Script(new(k=0, stake=7), mute(0, 8), say(0, 0), deliver(0), hush(0, 0))
        self.assertEqual(stakes_and_purse(script), ([0, 7], 7))

    def test_in_a_dispute_half_goes_to_the_other(self):
        for host in (0, 1):
            script = Script(new(k=0, n=3, stake=7), lie(0, 8, LIE), lie(1, 8, OTHER_LIE)).all_heard(3)
            for hosts in ((2, host), (0, 1)):
                script.do(pair(*hosts))
            script.do(mute(host, 4))
            script.do(say(2, host))
            script.do(deliver(6))
            script.do(hush(2, host))
            expected = [10, 10, 7]
            expected[host] = 0
            self.assertEqual(stakes_and_purse(script), (expected, 4))
            self.assertEqual(ends(script), [(4, host), (3, host)])


class Halving(unittest.TestCase):

    def test_questions_and_counts(self):
        script = Script(new(n=2), lie(0, 8, LIE)).all_heard(2)
        script.do(pair(1, 0))
        seen = []
        for number in range(3):
            script.hears(1, 0)
            seen.append(affair_after(*script.calls).disputes[0])
            script.hears(1, 1)
        self.assertEqual([(one.questions, one.turn_asked, one.low_turn, one.high_turn) for one in seen],
                         [(1, 4, 0, 8), (2, 6, 4, 8), (3, 7, 6, 8)])
        self.assertEqual([one.asked for one in seen], [{1: 0, 0: 1}] * 3)
        self.assertEqual([one.agreed for one in seen], [(0, 1, 1), (0, 5, 1), (0, 7, 1)])
        ended = affair_after(*script.calls).disputes[0]
        # When no more is asked for, the turn asked for last and its counts stay.
        self.assertEqual((ended.questions, ended.turn_asked, ended.low_turn, ended.high_turn), (3, 7, 7, 8))
        self.assertEqual((ended.asked, ended.agreed, ended.ended), ({1: 1, 0: 1}, (0, 8, 1), (1, 2)))

    def test_with_one_turn_there_is_no_question(self):
        script = Script(new(turns=1), lie(0, 1, LIE)).all_heard(2)
        script.do(pair(0, 1))
        dispute = affair_after(*script.calls).disputes[0]
        self.assertEqual((dispute.questions, dispute.turn_asked, dispute.asked), (0, 0, {0: 0, 1: 0}))


class Heard(unittest.TestCase):

    def test_of_a_host_that_is_out_nothing_is_kept(self):
        # Host 0 goes out by another word for turn 8; its answer for turn 4 comes afterwards.
        calls = [new(n=3, stake=7), lie(0, 8, LIE), say(0, 0), double(0), say(0, 1), deliver(0), deliver(2),
                 deliver(3), deliver(4), pair(0, 1), say(1, 0), deliver(5), honest(0, 8), deliver(1), deliver(7)]
        affair = affair_after(*calls)
        self.assertEqual((affair.hosts[0].out, affair.hosts[0].heard), (True, {8: LIE}))
        affair = affair_after(*calls, deliver(6))
        self.assertEqual((affair.hosts[0].out, affair.hosts[0].heard), (True, {8: LIE}))
        self.assertEqual((affair.purse, [host.stake for host in affair.hosts]), (4, [0, 10, 7]))

    def test_when_the_end_is_found_nobody_is_put_out(self):
        calls = [new(stake=7), say(0, 0), double(0), say(0, 1), deliver(0), deliver(2), deliver(3), deliver(4),
                 close(), lie(0, 8, LIE), deliver(1), deliver(5)]
        affair = affair_after(*calls)
        self.assertEqual((affair.hosts[0].out, affair.hosts[0].stake, affair.purse), (False, 7, 0))

    def test_when_the_end_is_found_nothing_is_kept(self):
        script = Script(new(n=2, k=0), lie(0, 8, LIE)).all_heard(2)
        script.do(pair(0, 1))
        late = script.do(say(1, 1))[0]
        script.do(mute(0, 4))
        silent = script.do(say(1, 0))[0]
        script.do(deliver(silent))
        script.do(hush(1, 0))
        self.assertEqual(script.do(close()), [1, 3, 0, 9, 1])
        script.do(deliver(late))
        self.assertEqual(script.do(deliver(silent + 1)), [0])
        self.assertEqual(affair_after(*script.calls).hosts[1].heard, {8: (0, 9, 1)})


class Words(unittest.TestCase):

    def counts(self, *calls):
        line = bench_after(*calls).line
        return line.made, len(line.words), line.came, line.lost

    def test_made_on_the_line_came_and_lost(self):
        calls = [new(k=2), say(0, 0), double(0), double(0), deliver(0), lose(1), lose(3), lose(2), deliver(9), lose(9)]
        self.assertEqual(self.counts(*calls[:1]), (0, 0, 0, 0))
        self.assertEqual(self.counts(*calls[:4]), (3, 3, 0, 0))
        self.assertEqual(self.counts(*calls[:5]), (4, 3, 1, 0))
        self.assertEqual(self.counts(*calls), (4, 1, 1, 2))
        self.assertEqual(self.counts(*calls, mute(0, 8), deliver(2)), (4, 0, 2, 2))

    def test_they_go_on_with_a_new_affair_but_not_behind_clear(self):
        calls = [new(), say(0, 0), say(0, 0), lose(0), mute(0, 8), deliver(1), new()]
        self.assertEqual(self.counts(*calls), (2, 0, 1, 1))
        self.assertEqual(self.counts(*calls, clear()), (0, 0, 0, 0))


if __name__ == "__main__":
    unittest.main()
