"""The line between judge and hosts, and the words on it."""

FULL_LINE = 60


class Word:
    """A question to the host where the state is None, else the host's answer."""

    def __init__(self, dispute, host, turn, state):
        self.dispute = dispute
        self.host = host
        self.turn = turn
        self.state = state


class Line:
    """The words on the line by their numbers, and how many were made, came and were lost."""

    def __init__(self):
        self.words = {}
        self.made = 0
        self.came = 0
        self.lost = 0

    def is_full(self):
        return len(self.words) >= FULL_LINE

    def put(self, word):
        """Puts the word behind the others and gives back its number."""
        number = self.made
        self.words[number] = word
        self.made += 1
        return number

    def let_come(self, number):
        self.came += 1
        return self.words.pop(number)

    def let_go(self, number):
        self.lost += 1
        return self.words.pop(number)

    def has_word_about(self, dispute, host, turn):
        about = (dispute, host, turn)
        return any([(word.dispute, word.host, word.turn) == about for word in self.words.values()])
