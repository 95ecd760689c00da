"""The calls that only look: at the line, at the affair with its hosts and disputes, and at the run."""

from halvedruns.replies import NOT_AS_TOLD
from halvedruns.replies import NO_SUCH
from halvedruns.replies import behind_count

FIRST_READING = 12


def as_number(holds):
    return 1 if holds else 0


def call_line(bench, numbers, rows):
    words = list(bench.line.words)
    return [len(words)] + behind_count(words)


def call_word(bench, numbers, rows):
    if numbers[0] not in bench.line.words:
        return [NO_SUCH]
    word = bench.line.words[numbers[0]]
    told = [word.dispute, word.host, word.turn]
    if word.state is None:
        return told + [0]
    return told + [1] + behind_count(word.state)


def call_dispute(bench, numbers, rows):
    if not bench.affair.has_pair(numbers[0]):
        return [NO_SUCH]
    dispute = bench.affair.dispute_at(numbers[0])
    first = dispute.hosts[0]
    second = dispute.hosts[1]
    told = [dispute.turn_asked, first, second, dispute.low_turn, dispute.high_turn]
    told.extend([dispute.asked[first], dispute.asked[second], dispute.questions, dispute.lost])
    return told + list(dispute.ended)


def call_agreed(bench, numbers, rows):
    if not bench.affair.has_pair(numbers[0]):
        return [NO_SUCH]
    dispute = bench.affair.dispute_at(numbers[0])
    return [dispute.low_turn] + behind_count(dispute.agreed)


def call_truth(bench, numbers, rows):
    affair = bench.affair
    if not affair.has_turn(numbers[0]):
        return [NOT_AS_TOLD]
    return [numbers[0]] + behind_count(affair.run.state_at(numbers[0]))


def state_or_nothing(turn, state):
    return [NO_SUCH] if state is None else [turn] + behind_count(state)


def call_heard(bench, numbers, rows):
    affair = bench.affair
    if not affair.has_host_and_turn(numbers[0], numbers[1]):
        return [NOT_AS_TOLD]
    return state_or_nothing(numbers[1], affair.said(numbers[0], numbers[1]))


def call_says(bench, numbers, rows):
    affair = bench.affair
    if not affair.has_host_and_turn(numbers[0], numbers[1]):
        return [NOT_AS_TOLD]
    host = affair.hosts[numbers[0]]
    return state_or_nothing(numbers[1], host.says(numbers[1], affair.run))


def call_host(bench, numbers, rows):
    affair = bench.affair
    number = numbers[0]
    if not affair.has_host(number):
        return [NOT_AS_TOLD]
    host = affair.hosts[number]
    told = [host.stake, as_number(host.out), host.how_much_told()]
    return told + [affair.opening.asked[number], len(affair.open_disputes_of(number))]


def call_affair(bench, numbers, rows):
    affair = bench.affair
    told = [affair.turns, affair.losses_allowed, len(affair.hosts), len(affair.hosts_in())]
    told.extend([len(affair.disputes), len(affair.open_disputes()), affair.opening.lost])
    return told + [affair.purse, as_number(affair.end_found), affair.how_much_heard()]


def call_counts(bench, numbers, rows):
    line = bench.line
    return [line.made, len(line.words), line.came, line.lost]


def call_work(bench, numbers, rows):
    run = bench.affair.run
    if not run.is_state(rows[0]):
        return [NOT_AS_TOLD]
    return [0] + behind_count(run.state_behind(tuple(rows[0])))


READING_CALLS = {
    12: call_line,
    13: call_word,
    14: call_dispute,
    15: call_agreed,
    16: call_truth,
    17: call_heard,
    18: call_says,
    19: call_host,
    20: call_affair,
    21: call_counts,
    22: call_work,
}


def answer_reading(bench, call, numbers, rows):
    perform = READING_CALLS[call]
    return perform(bench, numbers, rows)
