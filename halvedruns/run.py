"""The run: a program, the states it goes through, and one turn from a state to the next."""

MODULUS = 1000
ORDER_LENGTH = 4
MOST_ORDERS = 20
MOST_NUMBERS = 6
LAST_OP = 7


def are_numbers(row):
    return all([0 <= number < MODULUS for number in row])


def is_program(row):
    if len(row) % ORDER_LENGTH != 0 or not 1 <= len(row) // ORDER_LENGTH <= MOST_ORDERS:
        return False
    return are_numbers(row) and all([op <= LAST_OP for op in row[::ORDER_LENGTH]])


def are_first_numbers(row):
    return 1 <= len(row) <= MOST_NUMBERS and are_numbers(row)


def orders_of(row):
    return [tuple(row[at:at + ORDER_LENGTH]) for at in range(0, len(row), ORDER_LENGTH)]


def put_value(order, numbers):
    """What the ops 0 to 3 put into number x."""
    op = order[0]
    if op == 3:
        return order[2]
    left = numbers[order[2] % len(numbers)]
    right = numbers[order[3] % len(numbers)]
    if op == 0:
        return (left + right) % MODULUS
    if op == 1:
        return (left + MODULUS - right) % MODULUS
    return left * right % MODULUS


def numbers_after(order, numbers):
    changed = list(numbers)
    x = order[1] % len(numbers)
    if order[0] <= 3:
        changed[x] = put_value(order, numbers)
    elif order[0] == 4:
        y = order[2] % len(numbers)
        changed[x] = numbers[y]
        changed[y] = numbers[x]
    return changed


def jumps(order, numbers):
    x = numbers[order[1] % len(numbers)]
    if order[0] == 5:
        return x == 0
    return order[0] == 6 and x < numbers[order[2] % len(numbers)]


class Run:
    """A state is a tuple: the place of the order that is next, then the numbers."""

    def __init__(self, program, first):
        self.orders = orders_of(program)
        self.states = [tuple([0] + first)]

    def is_state(self, row):
        if len(row) != len(self.states[0]):
            return False
        return 0 <= row[0] < len(self.orders) and are_numbers(row[1:])

    def state_behind(self, state):
        """The state one turn behind this one, which need not be one of the run's own."""
        order = self.orders[state[0]]
        numbers = state[1:]
        place = order[3] if jumps(order, numbers) else state[0] + 1
        return tuple([place % len(self.orders)] + numbers_after(order, numbers))

    def state_at(self, turn):
        # Many affairs never need their last turns, so the run is worked out only as far as asked.
        while len(self.states) <= turn:
            self.states.append(self.state_behind(self.states[-1]))
        return self.states[turn]
