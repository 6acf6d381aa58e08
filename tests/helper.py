"""Rows of calls by name, and a way to ask them one behind another."""

from hintmaps.game import answers

# The needs of a variable's value, by how they're told.
IS, IS_NOT, BELOW, FROM = 0, 1, 2, 3
# The effects on a variable, by how they're told.
SET, ADD, COPY, SWAP = 0, 1, 2, 3

CLEAR = [0]
VIEW, BELIEF, KNOWN, SIGHT = [9], [10], [11], [14]
ACTUAL, PAST, PURSE = [20], [21], [22]


def listed(threes):
    numbers = [number for three in threes for number in three]
    return [len(numbers)] + numbers


def var(size, begin):
    return [1, size, begin]


def doing(needs, effects):
    return [2] + listed(needs) + listed(effects)


def goal(*needs):
    return [3] + listed(needs)


def see(variable, *needs):
    return [4, variable] + listed(needs)


def maybe(variable, least, greatest):
    return [5, variable, least, greatest]


def fact(price, *needs):
    return [6, price] + listed(needs)


def start(purse=0):
    return [7, purse]


def play(number):
    return [8, number]


def level(most=60):
    return [12, most]


def hint(most=60):
    return [13, most]


def bar(number):
    return [15, number]


def tell(number):
    return [16, number]


def lead(most=60):
    return [17, most]


def chart(most=60):
    return [18, most]


def strategy(most=60):
    return [19, most]


def flat(rows):
    return [number for row in rows for number in [0, len(row)] + row]


def parted(numbers):
    """The answers that stand behind their counts, each as a list."""
    parts = []
    at = 0
    while at < len(numbers):
        count = numbers[at]
        part = numbers[at + 1:at + 1 + count]
        assert len(part) == count and count > 0, numbers
        parts.append(part)
        at += 1 + count
    return parts


def ask(*rows):
    """The answer to each row, one behind another on one new object."""
    parts = parted(answers(flat(rows)))
    assert len(parts) == len(rows), (rows, parts)
    return parts


def last(*rows):
    return ask(*rows)[-1]
