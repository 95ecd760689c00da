"""What holds of any calls whatever, tried on lines made from fixed seeds."""

import random
import unittest

from halvedruns.calls import Bench
from halvedruns.judge import Reader, answer_next
from tests.helper import (BIG, affair_after, ask, clear, close, deliver, double, honest, hush, lie, lose, mute, new,
                          pair, say)

SEEDS = range(150)
LENGTH = 120
WILD = (-BIG, -1, 7, 61, 2001, BIG)


def random_state(chance, orders, count):
    row = [chance.randrange(orders)] + [chance.choice((0, 1, 500)) for number in range(count)]
    return row if chance.random() < 0.95 else row[1:]


def random_new(chance):
    orders = chance.randint(1, 4)
    program = []
    for number in range(orders):
        program += [chance.randint(0, 7)] + [chance.choice((0, 1, 2, 5, 999)) for part in range(3)]
    first = [chance.choice((0, 1, 999)) for number in range(chance.randint(1, 3))]
    return new(turns=chance.choice((1, 2, 3, 4, 9)), k=chance.choice((0, 0, 1, 2)), n=chance.randint(2, 6),
               stake=chance.choice((0, 1, 7, 1000)), program=program, first=first)


class Maker:
    """Makes calls that often can be done: it does them itself on the way and looks at the line."""

    def __init__(self, seed, first_honest):
        self.chance = random.Random(seed)
        self.first_liar = 1 if first_honest else 0
        self.begin = random_new(self.chance)
        self.n = self.begin[3]
        self.orders = self.begin[5] // 4
        self.count = self.begin[6 + self.begin[5]]
        self.bench = Bench()

    def number(self, low, high):
        return self.chance.choice(WILD) if self.chance.random() < 0.03 else self.chance.randint(low, high)

    def telling(self):
        host = self.number(self.first_liar, self.n - 1)
        turn = self.chance.choice((self.begin[1], self.begin[1] // 2, self.number(0, self.begin[1])))
        state = random_state(self.chance, self.orders, self.count)
        return self.chance.choice((lie(host, turn, state), lie(host, turn, state), mute(host, turn),
                                   honest(host, turn)))

    def word(self):
        words = list(self.bench.line.words)
        return self.chance.choice(words) if words and self.chance.random() < 0.95 else self.number(0, 20)

    def dispute(self):
        return self.number(0, len(self.bench.affair.disputes) if self.bench.affair else 1)

    def call(self):
        host = self.number(0, self.n - 1)
        kind = self.chance.random()
        if kind < 0.1:
            return self.telling()
        if kind < 0.18:
            return pair(host, self.number(0, self.n - 1))
        if kind < 0.4:
            return say(self.dispute(), host)
        if kind < 0.8:
            return deliver(self.word())
        if kind < 0.88:
            return self.chance.choice((lose, double))(self.word())
        return hush(self.dispute(), host) if kind < 0.99 else close()

    def line(self):
        calls = []
        while len(calls) < LENGTH:
            if not calls:
                call = self.begin
            elif len(calls) < 9:
                call = self.telling()
            elif len(calls) < 9 + self.n:
                call = say(0, len(calls) - 9)
            else:
                call = self.call()
            answer_next(self.bench, Reader(call))
            calls.append(call)
        return calls


class AnyLine(unittest.TestCase):

    def test_a_refusal_is_one_number_and_changes_nothing(self):
        done = {}
        refused = {}
        for seed in SEEDS:
            calls = Maker(seed, False).line()
            if seed % 3 == 0:
                middle = random_new(random.Random(seed))
                calls[60:60] = [middle, clear(), middle]
            given = ask(*calls)
            self.assertEqual(len(given), len(calls))
            kept = [(call, told) for call, told in zip(calls, given) if told[0] >= 0]
            for call, told in zip(calls, given):
                counts = done if told[0] >= 0 else refused
                counts[call[0]] = counts.get(call[0], 0) + 1
                self.assertTrue(min(told) >= 0 or len(told) == 1, (call, told))
            self.assertEqual(ask(*[call for call, told in kept]), [told for call, told in kept])
        # So that the test doesn't become empty: each call was done, and each that can be was refused.
        self.assertEqual(sorted(done), list(range(12)))
        self.assertEqual(sorted(refused), list(range(1, 12)))

    def test_a_host_that_says_just_what_the_run_is_is_never_put_out(self):
        others_out = 0
        for seed in SEEDS:
            affair = affair_after(*Maker(seed, True).line())
            self.assertFalse(affair.hosts[0].out)
            self.assertTrue(affair.hosts[0].stake >= 0)
            others_out += len([host for host in affair.hosts if host.out])
        self.assertGreater(others_out, 50)

    def test_no_stake_is_made_or_gone(self):
        for seed in SEEDS:
            maker = Maker(seed, False)
            affair = affair_after(*maker.line())
            self.assertEqual(sum(host.stake for host in affair.hosts) + affair.purse, maker.n * maker.begin[4])
            self.assertEqual([host.stake for host in affair.hosts if host.out and host.stake], [])

    def test_no_open_dispute_has_a_host_that_is_out_or_what_could_be_done(self):
        for seed in SEEDS:
            affair = affair_after(*Maker(seed, False).line())
            for dispute in affair.disputes:
                if dispute.is_open():
                    heard = [affair.said(host, dispute.turn_asked) for host in dispute.hosts]
                    self.assertIn(None, heard)
                    self.assertFalse(any(affair.is_out(host) for host in dispute.hosts))
                    self.assertFalse(affair.end_found)


if __name__ == "__main__":
    unittest.main()
