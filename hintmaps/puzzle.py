"""Puzzles: variables, doings, the goal, views and facts; what can be done in a state and what's seen of it.

A state is a tuple of values. Needs and effects are tuples of threes.
"""


# What has been told of a puzzle; a new one is empty.
# For each variable there's its size, its beginning and its span: the least and the greatest value
# with which it may begin. A doing is (needs, effects), a view (variable, needs), a fact (price, needs).
class Puzzle:
    def __init__(self):
        self.sizes = []
        self.begins = []
        self.spans = []
        self.doings = []
        self.goal = ()
        self.views = []
        self.facts = []


def is_need_met(how, value, number):
    if how == 0:
        return value == number
    if how == 1:
        return value != number
    if how == 2:
        return value < number
    return value >= number


def are_needs_met(needs, state):
    for variable, how, number in needs:
        if not is_need_met(how, state[variable], number):
            return False
    return True


def is_end(puzzle, state):
    return are_needs_met(puzzle.goal, state)


def values_behind_effect(values, effect):
    variable = effect[0]
    how = effect[1]
    number = effect[2]
    changed = list(values)
    if how == 0:
        changed[variable] = number
    elif how == 1:
        changed[variable] = values[variable] + number
    else:
        changed[variable] = values[number]
    if how == 3:
        changed[number] = values[variable]
    return changed


def are_values_in_range(sizes, values):
    for size, value in zip(sizes, values):
        if value < 0 or value >= size:
            return False
    return True


def state_behind(puzzle, doing, state):
    """The state that comes of the doing; None if it can't be done."""
    if not are_needs_met(doing[0], state):
        return None
    values = list(state)
    for effect in doing[1]:
        values = values_behind_effect(values, effect)
        if not are_values_in_range(puzzle.sizes, values):
            return None
    return tuple(values)


def is_seen(puzzle, variable, state):
    for viewed, needs in puzzle.views:
        if viewed == variable and are_needs_met(needs, state):
            return True
    return False


def what_is_seen(puzzle, state):
    row = []
    for variable, value in enumerate(state):
        if is_seen(puzzle, variable, state):
            row.append(1)
            row.append(value)
        else:
            row.append(0)
    return tuple(row)


def count_of_starts(puzzle):
    """How many states have values with which the variables may begin, whatever is seen of them."""
    count = 1
    for least, greatest in puzzle.spans:
        count = count * (greatest - least + 1)
    return count


def starts_within_spans(puzzle):
    states = [()]
    for least, greatest in puzzle.spans:
        longer = []
        for state in states:
            for value in range(least, greatest + 1):
                longer.append(state + (value,))
        states = longer
    return states


def beginnings_that_may_be(puzzle):
    seen = what_is_seen(puzzle, tuple(puzzle.begins))
    return tuple([state for state in starts_within_spans(puzzle) if what_is_seen(puzzle, state) == seen])
