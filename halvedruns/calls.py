"""The calls that do something: what refuses each of them, what it does, and what it answers."""

from halvedruns.affair import Affair
from halvedruns.line import Line
from halvedruns.line import Word
from halvedruns.reading import FIRST_READING
from halvedruns.reading import answer_reading
from halvedruns.replies import ASKED_TOO_SELDOM
from halvedruns.replies import HEARD_OR_NOT
from halvedruns.replies import HOST_IS_OUT
from halvedruns.replies import LIKE_OR_UNLIKE
from halvedruns.replies import LINE_IS_FULL
from halvedruns.replies import LOST_ENOUGH
from halvedruns.replies import NOT_AS_TOLD
from halvedruns.replies import NOT_NOW
from halvedruns.replies import NO_AFFAIR
from halvedruns.replies import NO_PAIR
from halvedruns.replies import NO_SUCH
from halvedruns.replies import STILL_ON_LINE
from halvedruns.replies import behind_count
from halvedruns.run import Run
from halvedruns.run import are_first_numbers
from halvedruns.run import is_program


class Bench:
    """What stays from one call to the next."""

    def __init__(self):
        self.line = Line()
        self.affair = None


def call_clear(bench, numbers, rows):
    bench.line = Line()
    bench.affair = None
    return [0]


def call_new(bench, numbers, rows):
    turns = numbers[0]
    k = numbers[1]
    n = numbers[2]
    stake = numbers[3]
    if not (1 <= turns <= 2000 and 0 <= k <= 5 and 2 <= n <= 6 and 0 <= stake <= 1000):
        return [NOT_AS_TOLD]
    if bench.line.words:
        return [NOT_NOW]
    if not (is_program(rows[0]) and are_first_numbers(rows[1])):
        return [NOT_AS_TOLD]
    bench.affair = Affair(Run(rows[0], rows[1]), turns, k, n, stake)
    return [n]


def tell(affair, numbers, state):
    host = affair.hosts[numbers[0]]
    host.tell(numbers[1], state)
    return [host.how_much_told()]


def call_lie(bench, numbers, rows):
    affair = bench.affair
    if not (affair.has_host_and_turn(numbers[0], numbers[1]) and affair.run.is_state(rows[0])):
        return [NOT_AS_TOLD]
    return tell(affair, numbers, tuple(rows[0]))


def call_mute(bench, numbers, rows):
    if not bench.affair.has_host_and_turn(numbers[0], numbers[1]):
        return [NOT_AS_TOLD]
    return tell(bench.affair, numbers, None)


def call_honest(bench, numbers, rows):
    if not bench.affair.has_host_and_turn(numbers[0], numbers[1]):
        return [NOT_AS_TOLD]
    host = bench.affair.hosts[numbers[0]]
    host.take_back(numbers[1])
    return [host.how_much_told()]


def pair_refusal(affair, x, y):
    """0 where nothing refuses it; likewise with the other refusals below."""
    if not (affair.has_host(x) and affair.has_host(y)):
        return NOT_AS_TOLD
    if affair.end_found:
        return NOT_NOW
    if affair.is_out(x) or affair.is_out(y):
        return HOST_IS_OUT
    if x == y or affair.are_in_dispute(x, y):
        return NO_PAIR
    x_said = affair.said(x, affair.turns)
    y_said = affair.said(y, affair.turns)
    if x_said is None or y_said is None:
        return HEARD_OR_NOT
    return LIKE_OR_UNLIKE if x_said == y_said else 0


def call_pair(bench, numbers, rows):
    refusal = pair_refusal(bench.affair, numbers[0], numbers[1])
    if refusal != 0:
        return [refusal]
    return [bench.affair.begin_dispute(numbers[0], numbers[1])]


def question_refusal(affair, number, host):
    """What say and hush are both refused for, before anything that only one of them looks at."""
    if not affair.has_host(host):
        return NOT_AS_TOLD
    if affair.end_found:
        return NOT_NOW
    if affair.is_out(host):
        return HOST_IS_OUT
    if not affair.has_dispute(number):
        return NO_SUCH
    dispute = affair.dispute_at(number)
    if not dispute.is_open():
        return NOT_NOW
    if host not in dispute.hosts:
        return NO_SUCH
    return 0 if affair.said(host, dispute.turn_asked) is None else HEARD_OR_NOT


def call_say(bench, numbers, rows):
    number = numbers[0]
    host = numbers[1]
    refusal = question_refusal(bench.affair, number, host)
    if refusal != 0:
        return [refusal]
    if bench.line.is_full():
        return [LINE_IS_FULL]
    dispute = bench.affair.dispute_at(number)
    dispute.asked[host] += 1
    word_number = bench.line.put(Word(number, host, dispute.turn_asked, None))
    return [word_number, dispute.turn_asked]


def answer_question(bench, word):
    host = bench.affair.hosts[word.host]
    state = host.says(word.turn, bench.affair.run)
    if state is not None:
        bench.line.put(Word(word.dispute, word.host, word.turn, state))


def call_deliver(bench, numbers, rows):
    if numbers[0] not in bench.line.words:
        return [NO_SUCH]
    word = bench.line.let_come(numbers[0])
    if word.state is None:
        answer_question(bench, word)
    else:
        bench.affair.hear(word.host, word.turn, word.state)
    return [len(bench.line.words)]


def call_lose(bench, numbers, rows):
    if numbers[0] not in bench.line.words:
        return [NO_SUCH]
    dispute = bench.affair.dispute_at(bench.line.words[numbers[0]].dispute)
    if dispute.lost >= bench.affair.losses_allowed:
        return [LOST_ENOUGH]
    dispute.lost += 1
    bench.line.let_go(numbers[0])
    return [len(bench.line.words)]


def call_double(bench, numbers, rows):
    if numbers[0] not in bench.line.words:
        return [NO_SUCH]
    if bench.line.is_full():
        return [LINE_IS_FULL]
    word = bench.line.words[numbers[0]]
    return [bench.line.put(Word(word.dispute, word.host, word.turn, word.state))]


def hush_refusal(bench, number, host):
    refusal = question_refusal(bench.affair, number, host)
    if refusal != 0:
        return refusal
    dispute = bench.affair.dispute_at(number)
    if dispute.asked[host] <= bench.affair.losses_allowed:
        return ASKED_TOO_SELDOM
    return STILL_ON_LINE if bench.line.has_word_about(number, host, dispute.turn_asked) else 0


def call_hush(bench, numbers, rows):
    refusal = hush_refusal(bench, numbers[0], numbers[1])
    if refusal != 0:
        return [refusal]
    bench.affair.put_out_silent(numbers[0], numbers[1])
    return [numbers[1]]


def call_close(bench, numbers, rows):
    affair = bench.affair
    if affair.end_found:
        return [NOT_NOW]
    ends = [host.heard.get(affair.turns) for host in affair.hosts_in()]
    if not ends:
        return [HOST_IS_OUT]
    if None in ends:
        return [HEARD_OR_NOT]
    if ends.count(ends[0]) < len(ends):
        return [LIKE_OR_UNLIKE]
    affair.end_found = True
    return [len(ends)] + behind_count(ends[0])


CALLS = {
    0: call_clear,
    1: call_new,
    2: call_lie,
    3: call_mute,
    4: call_honest,
    5: call_pair,
    6: call_say,
    7: call_deliver,
    8: call_lose,
    9: call_double,
    10: call_hush,
    11: call_close,
}

# clear, new, double, line, word and counts.
CALLS_WITHOUT_AFFAIR = (0, 1, 9, 12, 13, 21)


def answer(bench, call, numbers, rows):
    if bench.affair is None and call not in CALLS_WITHOUT_AFFAIR:
        return [NO_AFFAIR]
    if call >= FIRST_READING:
        return answer_reading(bench, call, numbers, rows)
    perform = CALLS[call]
    return perform(bench, numbers, rows)
