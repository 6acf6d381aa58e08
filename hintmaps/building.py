"""The calls that tell a puzzle: var, doing, goal, see, maybe, fact.

Each takes the puzzle and the call's arguments, which are in their ranges, and gives back the answer's numbers.
"""

from hintmaps.rows import VAR, threes

MOST_VARIABLES = 8
MOST_DOINGS = 20
MOST_VIEWS = 20
MOST_FACTS = 12


def is_there(puzzle, variable):
    return variable < len(puzzle.sizes)


def are_needs_there(puzzle, needs):
    return all([is_there(puzzle, need[0]) for need in needs])


def is_effect_there(puzzle, effect):
    if not is_there(puzzle, effect[0]):
        return False
    return effect[1] < 2 or is_there(puzzle, effect[2])


def are_effects_there(puzzle, effects):
    return all([is_effect_there(puzzle, effect) for effect in effects])


def tell_variable(puzzle, arguments):
    if len(puzzle.sizes) >= MOST_VARIABLES:
        return [-4]
    puzzle.sizes.append(arguments[0])
    puzzle.begins.append(arguments[1])
    puzzle.spans.append((arguments[1], arguments[1]))
    return [len(puzzle.sizes) - 1]


def tell_doing(puzzle, arguments):
    needs = threes(arguments[0])
    effects = threes(arguments[1])
    if not are_needs_there(puzzle, needs) or not are_effects_there(puzzle, effects):
        return [-3]
    if len(puzzle.doings) >= MOST_DOINGS:
        return [-4]
    puzzle.doings.append((needs, effects))
    return [len(puzzle.doings) - 1]


def tell_goal(puzzle, arguments):
    needs = threes(arguments[0])
    if not are_needs_there(puzzle, needs):
        return [-3]
    puzzle.goal = needs
    return [0]


def tell_view(puzzle, arguments):
    needs = threes(arguments[1])
    if not is_there(puzzle, arguments[0]) or not are_needs_there(puzzle, needs):
        return [-3]
    if len(puzzle.views) >= MOST_VIEWS:
        return [-4]
    puzzle.views.append((arguments[0], needs))
    return [0]


def tell_span(puzzle, arguments):
    variable = arguments[0]
    least = arguments[1]
    greatest = arguments[2]
    if not is_there(puzzle, variable):
        return [-3]
    if greatest >= puzzle.sizes[variable]:
        return [-4]
    if puzzle.begins[variable] < least or puzzle.begins[variable] > greatest:
        return [-5]
    puzzle.spans[variable] = (least, greatest)
    return [0]


def tell_new_fact(puzzle, arguments):
    needs = threes(arguments[1])
    if not are_needs_there(puzzle, needs):
        return [-3]
    if len(puzzle.facts) >= MOST_FACTS:
        return [-4]
    puzzle.facts.append((arguments[0], needs))
    return [len(puzzle.facts) - 1]


# In the order of the calls' places, from var on.
PUZZLE_CALLS = (tell_variable, tell_doing, tell_goal, tell_view, tell_span, tell_new_fact)


def answer_on_puzzle(puzzle, place, arguments):
    return PUZZLE_CALLS[place - VAR](puzzle, arguments)
