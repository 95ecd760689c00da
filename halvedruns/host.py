"""A host: its stake, what it was told to say, and what was heard of it."""


class Host:
    """Silence is told as None; turns that nothing is told of are said as the run has them."""

    def __init__(self, stake):
        self.stake = stake
        self.out = False
        self.tellings = {}
        self.heard = {}

    def tell(self, turn, state):
        self.tellings[turn] = self.tellings.get(turn, []) + [state]

    def take_back(self, turn):
        self.tellings.pop(turn, None)

    def how_much_told(self):
        return sum([len(told) for told in self.tellings.values()])

    def says(self, turn, run):
        if turn in self.tellings:
            return self.tellings[turn][-1]
        return run.state_at(turn)
