"""An affair: one run, the hosts that speak of it, and the disputes between them."""

from halvedruns.dispute import Dispute
from halvedruns.dispute import LEFT
from halvedruns.dispute import Opening
from halvedruns.dispute import SILENT
from halvedruns.dispute import TWICE
from halvedruns.dispute import WRONG
from halvedruns.host import Host


class Affair:
    """Hosts are meant by their numbers; dispute 0 is the opening."""

    def __init__(self, run, turns, k, n, stake):
        self.run = run
        self.turns = turns
        self.losses_allowed = k
        self.hosts = [Host(stake) for number in range(n)]
        self.opening = Opening(turns, n)
        self.disputes = []
        self.purse = 0
        self.end_found = False

    def has_host(self, number):
        return 0 <= number < len(self.hosts)

    def has_turn(self, turn):
        return 0 <= turn <= self.turns

    def has_host_and_turn(self, number, turn):
        return self.has_host(number) and self.has_turn(turn)

    def has_dispute(self, number):
        return 0 <= number <= len(self.disputes)

    def has_pair(self, number):
        """Whether it is the number of a dispute of two hosts, so not of the opening."""
        return number != 0 and self.has_dispute(number)

    def dispute_at(self, number):
        return self.opening if number == 0 else self.disputes[number - 1]

    def hosts_in(self):
        return [host for host in self.hosts if not host.out]

    def is_out(self, number):
        return self.hosts[number].out

    def said(self, number, turn):
        """What was heard of the host for that turn; None if nothing was."""
        return self.hosts[number].heard.get(turn)

    def how_much_heard(self):
        return sum([len(host.heard) for host in self.hosts])

    def open_disputes(self):
        return [dispute for dispute in self.disputes if dispute.is_open()]

    def open_disputes_of(self, number):
        return [dispute for dispute in self.open_disputes() if number in dispute.hosts]

    def are_in_dispute(self, x, y):
        return any([y in dispute.hosts for dispute in self.open_disputes_of(x)])

    def begin_dispute(self, first, second):
        dispute = Dispute(first, second, self.run.state_at(0), self.turns)
        self.disputes.append(dispute)
        self.look_at(dispute)
        return len(self.disputes)

    def hear(self, number, turn, state):
        host = self.hosts[number]
        if host.out or self.end_found:
            return
        before = host.heard.get(turn)
        if before is None:
            host.heard[turn] = state
            for dispute in self.disputes:
                self.look_at(dispute)
        elif before != state:
            self.put_out_twice(number)

    def look_at(self, dispute):
        while dispute.is_open():
            if dispute.is_down_to_one_turn():
                self.work_out(dispute)
                return
            first_said = self.said(dispute.hosts[0], dispute.turn_asked)
            second_said = self.said(dispute.hosts[1], dispute.turn_asked)
            if first_said is None or second_said is None:
                return
            dispute.halve(first_said, second_said)

    def work_out(self, dispute):
        truth = self.run.state_behind(dispute.agreed)
        wrong = [number for number in dispute.hosts if self.said(number, dispute.high_turn) != truth]
        if len(wrong) == 2:
            dispute.ended = (WRONG, 3)
            self.put_out(wrong, None)
        else:
            dispute.ended = (WRONG, dispute.hosts.index(wrong[0]) + 1)
            self.put_out(wrong, dispute.other(wrong[0]))

    def put_out_twice(self, number):
        disputes = self.open_disputes_of(number)
        if disputes:
            self.end_against(disputes[0], TWICE, number)
        else:
            self.put_out([number], None)

    def put_out_silent(self, dispute_number, number):
        if dispute_number == 0:
            self.put_out([number], None)
        else:
            self.end_against(self.dispute_at(dispute_number), SILENT, number)

    def end_against(self, dispute, how, number):
        dispute.ended = (how, number)
        self.put_out([number], dispute.other(number))

    def put_out(self, numbers, winner):
        """Half of the stake goes to the winner; there is none but by a verdict against one alone."""
        for number in numbers:
            host = self.hosts[number]
            if winner is not None:
                gaining = self.hosts[winner]
                gaining.stake += host.stake // 2
                host.stake -= host.stake // 2
            self.purse += host.stake
            host.stake = 0
            host.out = True
        # Only when all of them are out: a dispute that is left tells its first host if that is out.
        self.leave_disputes()

    def leave_disputes(self):
        for dispute in self.disputes:
            gone = [number for number in dispute.hosts if self.is_out(number)]
            if gone and dispute.is_open():
                dispute.ended = (LEFT, gone[0])
