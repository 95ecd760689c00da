"""What answers are made of: the numbers of the refusals, and rows behind how many numbers they have."""

NOT_AS_TOLD = -1
NO_AFFAIR = -2
NOT_NOW = -3
HEARD_OR_NOT = -4
LINE_IS_FULL = -5
NO_SUCH = -6
LOST_ENOUGH = -7
ASKED_TOO_SELDOM = -8
STILL_ON_LINE = -9
HOST_IS_OUT = -10
NO_PAIR = -11
LIKE_OR_UNLIKE = -12


def behind_count(row):
    return [len(row)] + list(row)
