"""What the judge asks about: the opening, and disputes of two hosts."""

WRONG = 1
TWICE = 2
SILENT = 3
LEFT = 4


def no_asking(hosts):
    return dict([(host, 0) for host in hosts])


class Opening:
    """Each host is asked for the last turn; say, lose and hush take it as they take a dispute."""

    def __init__(self, turns, n):
        self.hosts = tuple(range(n))
        self.turn_asked = turns
        self.asked = no_asking(self.hosts)
        self.lost = 0

    def is_open(self):
        return True


class Dispute:
    """Its two hosts are agreed on the state at the low turn, and unlike at the high turn."""

    def __init__(self, first, second, beginning, turns):
        self.hosts = (first, second)
        self.low_turn = 0
        self.agreed = beginning
        self.high_turn = turns
        self.turn_asked = turns // 2
        self.asked = no_asking(self.hosts)
        self.questions = 0 if turns == 1 else 1
        self.lost = 0
        self.ended = (0, 0)

    def is_open(self):
        return self.ended == (0, 0)

    def is_down_to_one_turn(self):
        return self.high_turn == self.low_turn + 1

    def other(self, host):
        return self.hosts[1] if host == self.hosts[0] else self.hosts[0]

    def halve(self, first_said, second_said):
        """Takes in what both said for the turn that was asked for."""
        if first_said == second_said:
            self.low_turn = self.turn_asked
            self.agreed = first_said
        else:
            self.high_turn = self.turn_asked
        if not self.is_down_to_one_turn():
            self.ask_for_middle()

    def ask_for_middle(self):
        self.turn_asked = (self.low_turn + self.high_turn) // 2
        self.asked = no_asking(self.hosts)
        self.questions += 1
