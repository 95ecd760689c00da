"""Calls as lists of numbers, and their answers one by one."""

from halvedruns.judge import answers

BIG = 10 ** 18

# The document's example: behind t turns the state is 0, 1 + t, 1.
COUNTING = (0, 0, 0, 1)

# States that are never the example's own.
LIE = (0, 500, 500)
OTHER_LIE = (0, 600, 600)


def clear():
    return [0]


def new(turns=8, k=1, n=2, stake=10, program=COUNTING, first=(1, 1)):
    return [1, turns, k, n, stake, len(program), *program, len(first), *first]


def lie(host, turn, state):
    return [2, host, turn, len(state), *state]


def mute(host, turn):
    return [3, host, turn]


def honest(host, turn):
    return [4, host, turn]


def pair(x, y):
    return [5, x, y]


def say(dispute, host):
    return [6, dispute, host]


def deliver(word):
    return [7, word]


def lose(word):
    return [8, word]


def double(word):
    return [9, word]


def hush(dispute, host):
    return [10, dispute, host]


def close():
    return [11]


def read_line():
    return [12]


def read_word(word):
    return [13, word]


def read_dispute(number):
    return [14, number]


def read_agreed(number):
    return [15, number]


def read_truth(turn):
    return [16, turn]


def read_heard(host, turn):
    return [17, host, turn]


def read_says(host, turn):
    return [18, host, turn]


def read_host(host):
    return [19, host]


def read_affair():
    return [20]


def read_counts():
    return [21]


def work(state):
    return [22, len(state), *state]


def readings(turns=3, n=3, disputes=3, words=4):
    """Every call that only looks, at all that there may be, and a bit beyond."""
    calls = [read_line(), read_affair(), read_counts(), work((0, 7, 9)), work((0, 7))]
    calls += [read_word(word) for word in range(-1, words + 1)]
    for number in range(-1, disputes + 2):
        calls += [read_dispute(number), read_agreed(number)]
    for turn in range(-1, turns + 2):
        calls.append(read_truth(turn))
        for host in range(-1, n + 1):
            calls += [read_heard(host, turn), read_says(host, turn)]
    calls += [read_host(host) for host in range(-1, n + 1)]
    return calls


def split(given):
    """The answers, a list each."""
    parts = []
    at = 0
    while at < len(given):
        parts.append(given[at + 1:at + 1 + given[at]])
        at += 1 + given[at]
    return parts


def ask(*calls):
    """The answers to these calls."""
    return split(answers([number for call in calls for number in call]))


def last(*calls):
    """The answer to the last of these calls."""
    return ask(*calls)[-1]


def counting_state(turn):
    return (0, 1 + turn, 1)


class Script:
    """Calls one behind another, for tests that need the numbers of words on their way."""

    def __init__(self, *calls):
        self.calls = list(calls)

    def do(self, call):
        self.calls.append(call)
        return last(*self.calls)

    def sees(self, call):
        """The answer to a call that only looks, and is not kept."""
        return last(*self.calls, call)

    def hears(self, dispute, host):
        """Asks the host and lets the question and its answer come; gives back the turn."""
        word, turn = self.do(say(dispute, host))
        self.do(deliver(word))
        self.do(deliver(word + 1))
        return turn

    def all_heard(self, n):
        for host in range(n):
            self.hears(0, host)
        return self

    def is_out(self, host):
        """Whether the host is out, as long as the end is not found."""
        return last(*self.calls, say(0, host)) == [-10]

    def is_open(self, dispute, hosts):
        """Whether the dispute is open: of a host of its own that is in."""
        told = [last(*self.calls, say(dispute, host)) for host in hosts if not self.is_out(host)]
        return bool(told) and [-3] not in told


def in_dispute(n=3, k=1, turns=8):
    """Host 0 says a wrong end; dispute 1 is between it and host 1, and asks for the middle."""
    script = Script(new(n=n, k=k, turns=turns), lie(0, turns, LIE)).all_heard(n)
    assert script.do(pair(0, 1)) == [1]
    return script
