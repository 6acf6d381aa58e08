"""The rows that calls are: their forms, and the ranges of their arguments."""

CLEAR = 0
VAR = 1
MAYBE = 5
START = 7

# What the arguments of each call are, by the call's place.
FORMS = (
    (),
    ("size", "begin"),
    ("needs", "effects"),
    ("needs",),
    ("variable", "needs"),
    ("variable", "least", "greatest"),
    ("price", "needs"),
    ("purse",),
    ("doing",),
    (),
    (),
    (),
    ("most",),
    ("most",),
    (),
    ("fact",),
    ("fact",),
    ("most",),
    ("most",),
    ("most",),
    (),
    (),
    (),
)

RANGES = {
    "size": (1, 50),
    "begin": (0, 49),
    "variable": (0, 7),
    "least": (0, 49),
    "greatest": (0, 49),
    "price": (0, 1000),
    "purse": (0, 10000),
    "doing": (0, 19),
    "fact": (0, 11),
    "most": (1, 60),
}

LONGEST_LIST = 30


def is_between(number, least, greatest):
    return least <= number and number <= greatest


def is_list(kind):
    return kind == "needs" or kind == "effects"


def arguments_of(row):
    """The arguments of the call, each list as a list; None if the row is of none of the forms."""
    if len(row) == 0 or not is_between(row[0], 0, len(FORMS) - 1):
        return None
    arguments = []
    at = 1
    for kind in FORMS[row[0]]:
        if at >= len(row):
            return None
        if is_list(kind):
            behind = at + 1 + row[at]
            if not is_between(behind, at + 1, len(row)):
                return None
            arguments.append(row[at + 1:behind])
            at = behind
        else:
            arguments.append(row[at])
            at = at + 1
    if at != len(row):
        return None
    return arguments


def threes(numbers):
    return tuple([tuple(numbers[at:at + 3]) for at in range(0, len(numbers), 3)])


def is_three_in_range(kind, three):
    if not is_between(three[0], 0, 7) or not is_between(three[1], 0, 3):
        return False
    if kind == "effects" and three[1] >= 2:
        return is_between(three[2], 0, 7)
    return is_between(three[2], -1000, 1000)


def is_list_in_range(kind, numbers):
    if len(numbers) > LONGEST_LIST or len(numbers) % 3 != 0:
        return False
    return all([is_three_in_range(kind, three) for three in threes(numbers)])


def is_argument_in_range(kind, argument):
    if is_list(kind):
        return is_list_in_range(kind, argument)
    return is_between(argument, RANGES[kind][0], RANGES[kind][1])


def are_in_range(place, arguments):
    for kind, argument in zip(FORMS[place], arguments):
        if not is_argument_in_range(kind, argument):
            return False
    # In these two calls the range of one argument hangs on another one.
    if place == VAR:
        return arguments[1] < arguments[0]
    if place == MAYBE:
        return arguments[1] <= arguments[2]
    return True
