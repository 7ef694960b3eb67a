"""The forms of the calls: how they stand in a list, and the ranges of their numbers."""

# The least and greatest number of each plain argument, by the call's number.
PLAIN_RANGES = {
    0: ((1, 4),),
    1: ((1, 4),),
    2: ((1, 4),),
    3: ((1, 4), (0, 10000000), (0, 10000000), (1, 1000)),
    4: ((1, 4), (-10000, 10000)),
    5: ((1, 4), (1, 4)),
    6: ((1, 4), (1, 4), (500, 5000)),
    7: ((1, 4),),
    8: ((1, 4), (1, 200)),
    9: ((1, 4), (0, 1000), (1, 1000)),
    10: ((1, 4), (-10000, 10000)),
    11: ((1, 4), (0, 10000), (0, 10000), (0, 10000), (0, 10000), (1, 50)),
    12: ((1, 4), (1, 200)),
    13: ((1, 4),),
    14: ((1, 4), (1, 200)),
    15: ((1, 4), (1, 200), (-10000, 10000)),
    16: ((1, 4), (0, 10000), (0, 10000), (-10000, 10000)),
    17: ((1, 4), (1, 200), (1, 200)),
    18: ((1, 4), (1, 4)),
    19: ((1, 4), (-10000, 10000)),
    20: (),
    21: ((1, 4), (1, 4)),
    22: ((1, 4), (0, 10000), (0, 10000)),
}

# The least and greatest number within each row, for the calls that have rows.
ROW_RANGES = {
    0: ((0, 255),),
    20: ((-1000000, 1000000), (1, 1000000)),
}

# How many numbers a row may have, for the rows that have such a range: the lengths of levels
# have none, as another count than that of the differences is a refusal of its own.
ROW_COUNTS = {
    20: ((1, 30),),
}

# How many of the first arguments are slots that must have a surface, where it is not one.
SLOTS_ASKED = {
    0: 0,
    5: 2,
    6: 2,
    20: 0,
    21: 2,
}


class Call:
    """A call: its number, its plain arguments and its rows."""

    def __init__(self, number, plain, rows):
        self.number = number
        self.plain = plain
        self.rows = rows


def split_calls(numbers):
    """The calls that stand one behind another in a list of numbers."""
    calls = []
    at = 0
    while at < len(numbers):
        number = numbers[at]
        end = at + 1 + len(PLAIN_RANGES[number])
        plain = numbers[at + 1:end]
        rows = []
        while len(rows) < len(ROW_RANGES.get(number, ())):
            start = end + 1
            end = start + numbers[start - 1]
            rows.append(numbers[start:end])
        calls.append(Call(number, plain, rows))
        at = end
    return calls


def is_within(value, ends):
    """Whether a value is not beyond the ends of its range."""
    return ends[0] <= value and value <= ends[1]


def in_ranges(call):
    """Whether each argument, each number of a row and how many there are is within its range."""
    for value, ends in zip(call.plain, PLAIN_RANGES[call.number]):
        if not is_within(value, ends):
            return False
    for row, ends in zip(call.rows, ROW_COUNTS.get(call.number, ())):
        if not is_within(len(row), ends):
            return False
    for row, ends in zip(call.rows, ROW_RANGES.get(call.number, ())):
        for value in row:
            if not is_within(value, ends):
                return False
    return True


def slots_asked(call):
    """The slots that must have a surface for this call."""
    return call.plain[:SLOTS_ASKED.get(call.number, 1)]
