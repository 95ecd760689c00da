"""What holds of any calls whatever, tried on lines made from fixed seeds."""

import random
import unittest

from halvedruns.calls import Bench
from halvedruns.judge import Reader, answer_next
from tests.helper import (BIG, ask, clear, close, deliver, double, honest, hush, lie, lose, mute, new, pair,
                          read_affair, read_agreed, read_counts, read_dispute, read_heard, read_host, read_line,
                          read_says, read_truth, read_word, say, work)

SEEDS = range(150)
LENGTH = 120
WILD = (-BIG, -1, 7, 61, 2001, BIG)


def random_state(chance, orders, count):
    row = [chance.randrange(orders)] + [chance.choice((0, 1, 500)) for number in range(count)]
    return row if chance.random() < 0.95 else row[1:]


def random_new(chance):
    orders = chance.randint(1, 4)
    program = []
    for number in range(orders):
        program += [chance.randint(0, 7)] + [chance.choice((0, 1, 2, 5, 999)) for part in range(3)]
    first = [chance.choice((0, 1, 999)) for number in range(chance.randint(1, 3))]
    return new(turns=chance.choice((1, 2, 3, 4, 9)), k=chance.choice((0, 0, 1, 2)), n=chance.randint(2, 6),
               stake=chance.choice((0, 1, 7, 1000)), program=program, first=first)


class Maker:
    """Makes calls that often can be done: it does them itself on the way and looks at the line."""

    def __init__(self, seed, first_honest):
        self.chance = random.Random(seed)
        self.first_liar = 1 if first_honest else 0
        self.begin = random_new(self.chance)
        self.n = self.begin[3]
        self.orders = self.begin[5] // 4
        self.count = self.begin[6 + self.begin[5]]
        self.bench = Bench()

    def number(self, low, high):
        return self.chance.choice(WILD) if self.chance.random() < 0.03 else self.chance.randint(low, high)

    def telling(self):
        host = self.number(self.first_liar, self.n - 1)
        turn = self.chance.choice((self.begin[1], self.begin[1] // 2, self.number(0, self.begin[1])))
        state = random_state(self.chance, self.orders, self.count)
        return self.chance.choice((lie(host, turn, state), lie(host, turn, state), mute(host, turn),
                                   honest(host, turn)))

    def word(self):
        words = list(self.bench.line.words)
        return self.chance.choice(words) if words and self.chance.random() < 0.95 else self.number(0, 20)

    def dispute(self):
        return self.number(0, len(self.bench.affair.disputes) if self.bench.affair else 1)

    def looking(self):
        host = self.number(0, self.n - 1)
        turn = self.chance.choice((self.begin[1], self.number(0, self.begin[1])))
        return self.chance.choice((
            read_line(), read_word(self.word()), read_dispute(self.dispute()), read_agreed(self.dispute()),
            read_truth(turn), read_heard(host, turn), read_says(host, turn), read_host(host), read_affair(),
            read_counts(), work(random_state(self.chance, self.orders, self.count))))

    def call(self):
        if self.chance.random() < 0.1:
            return self.looking()
        host = self.number(0, self.n - 1)
        kind = self.chance.random()
        if kind < 0.1:
            return self.telling()
        if kind < 0.18:
            return pair(host, self.number(0, self.n - 1))
        if kind < 0.4:
            return say(self.dispute(), host)
        if kind < 0.8:
            return deliver(self.word())
        if kind < 0.88:
            return self.chance.choice((lose, double))(self.word())
        return hush(self.dispute(), host) if kind < 0.99 else close()

    def line(self):
        calls = []
        while len(calls) < LENGTH:
            if not calls:
                call = self.begin
            elif len(calls) < 9:
                call = self.telling()
            elif len(calls) < 9 + self.n:
                call = say(0, len(calls) - 9)
            else:
                call = self.call()
            answer_next(self.bench, Reader(call))
            calls.append(call)
        return calls


class Look:
    """All that can be seen behind these calls, through the calls that only look."""

    def __init__(self, calls):
        self.calls = calls
        self.affair = self.sees([read_affair()])[0]
        self.turns = self.affair[0]
        self.hosts = self.sees([read_host(host) for host in range(self.affair[2])])
        self.disputes = self.sees([read_dispute(number + 1) for number in range(self.affair[4])])
        self.agreed = self.sees([read_agreed(number + 1) for number in range(self.affair[4])])
        self.line = self.sees([read_line()])[0]
        self.counts = self.sees([read_counts()])[0]
        self.heard = {}
        pairs = [(host, turn) for host in range(len(self.hosts)) for turn in range(self.turns + 1)]
        for at, told in zip(pairs, self.sees([read_heard(*at) for at in pairs])):
            if told != [-6]:
                self.heard[at] = told[2:]

    def sees(self, looking):
        return ask(*self.calls, *looking)[len(self.calls):]


class AnyLine(unittest.TestCase):

    def test_a_refusal_is_one_number_and_changes_nothing(self):
        done = {}
        refused = {}
        for seed in SEEDS:
            calls = Maker(seed, False).line()
            if seed % 3 == 0:
                middle = random_new(random.Random(seed))
                calls[60:60] = [middle, clear(), middle]
            given = ask(*calls)
            self.assertEqual(len(given), len(calls))
            kept = [(call, told) for call, told in zip(calls, given) if told[0] >= 0]
            for call, told in zip(calls, given):
                counts = done if told[0] >= 0 else refused
                counts[call[0]] = counts.get(call[0], 0) + 1
                self.assertTrue(min(told) >= 0 or len(told) == 1, (call, told))
            self.assertEqual(ask(*[call for call, told in kept]), [told for call, told in kept])
        # So that the test doesn't become empty: each call was done, and each that can be was refused.
        self.assertEqual(sorted(done), list(range(23)))
        self.assertEqual(sorted(refused), [call for call in range(1, 23) if call not in (12, 20, 21)])

    def test_looking_changes_nothing(self):
        for seed in SEEDS:
            calls = Maker(seed, False).line()
            kept = [(call, told) for call, told in zip(calls, ask(*calls)) if call[0] < 12]
            self.assertEqual(ask(*[call for call, told in kept]), [told for call, told in kept])

    def test_a_host_that_says_just_what_the_run_is_is_never_put_out(self):
        others_out = 0
        for seed in SEEDS:
            look = Look(Maker(seed, True).line())
            self.assertEqual(look.hosts[0][1], 0)
            others_out += len([host for host in look.hosts if host[1]])
        self.assertGreater(others_out, 50)


class WhatIsSeen(unittest.TestCase):

    @classmethod
    def setUpClass(cls):
        cls.looks = []
        for seed in SEEDS:
            maker = Maker(seed, False)
            calls = maker.line()
            for length in (20, 50, LENGTH):
                cls.looks.append((maker.begin, Look(calls[:length])))

    def test_hosts_and_the_affair(self):
        for begin, look in self.looks:
            self.assertEqual(look.affair[:3], begin[1:4])
            self.assertEqual(look.affair[3], len([host for host in look.hosts if host[1] == 0]))
            self.assertEqual(sum(host[0] for host in look.hosts) + look.affair[7], begin[3] * begin[4])
            for stake, out, told, asked, opened in look.hosts:
                if out:
                    self.assertEqual((stake, opened), (0, 0))
            self.assertEqual(look.affair[9], len(look.heard))

    def test_open_disputes(self):
        for begin, look in self.looks:
            opened = [dispute for dispute in look.disputes if dispute[9:] == [0, 0]]
            self.assertEqual(look.affair[5], len(opened))
            for number, host in enumerate(look.hosts):
                self.assertEqual(host[4], len([dispute for dispute in opened if number in dispute[1:3]]))
            self.assertEqual(look.sees([read_dispute(look.affair[4] + 1)]), [[-6]])
            for asked, first, second, low, high, *rest in opened:
                self.assertEqual(asked, (low + high) // 2)
                self.assertGreater(high, low + 1)
                self.assertFalse((first, asked) in look.heard and (second, asked) in look.heard)
                self.assertEqual((look.hosts[first][1], look.hosts[second][1], look.affair[8]), (0, 0, 0))

    def test_what_disputes_stand_on(self):
        for begin, look in self.looks:
            beginning = look.sees([read_truth(0)])[0][2:]
            for dispute, agreed in zip(look.disputes, look.agreed):
                asked, first, second, low, high = dispute[:5]
                self.assertNotEqual(look.heard[first, high], look.heard[second, high])
                self.assertEqual(agreed[0], low)
                said = [look.heard[host, low] for host in (first, second)] if low else [beginning] * 2
                self.assertEqual([agreed[2:]] * 2, said)

    def test_how_disputes_ended(self):
        seen = set()
        for begin, look in self.looks:
            for dispute, agreed in zip(look.disputes, look.agreed):
                asked, first, second, low, high = dispute[:5]
                how, who = dispute[9:]
                seen.add((how, who if how == 1 else 0))
                if how == 1:
                    behind = look.sees([work(agreed[2:])])[0][2:]
                    wrong = [look.heard[host, high] != behind for host in (first, second)]
                    self.assertEqual((high, who), (low + 1, wrong[0] + 2 * wrong[1]))
                elif how > 1:
                    self.assertIn(who, (first, second))
                    self.assertEqual(look.hosts[who][1], 1)
        # So that the test doesn't become empty.
        self.assertEqual(seen, {(0, 0), (1, 1), (1, 2), (1, 3), (2, 0), (3, 0), (4, 0)})

    def test_words(self):
        for begin, look in self.looks:
            made, there, came, lost = look.counts
            self.assertEqual(made, there + came + lost)
            numbers = look.line[2:]
            self.assertEqual(look.line[:2], [there, there])
            self.assertEqual((numbers, len(numbers)), (sorted(set(numbers)), there))
            self.assertEqual(lost, look.affair[6] + sum(dispute[8] for dispute in look.disputes))
            words = look.sees([read_word(number) for number in range(made + 1)])
            self.assertEqual([number for number in range(made + 1) if words[number] != [-6]], numbers)
            for dispute, host, turn, *state in [words[number] for number in numbers]:
                self.assertTrue(0 <= dispute <= look.affair[4] and 0 <= host < begin[3] and 0 <= turn <= begin[1])
                self.assertTrue(state == [0] or state[:2] == [1, len(state) - 2])
                if dispute:
                    self.assertIn(host, look.disputes[dispute - 1][1:3])
                else:
                    self.assertEqual(turn, begin[1])


if __name__ == "__main__":
    unittest.main()
