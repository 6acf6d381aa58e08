"""A play: the actual state, what's held for possible, what trying a doing leads to, and facts.

A belief is a tuple of states, each once.
"""

from hintmaps.puzzle import are_needs_met, state_behind, what_is_seen


# A play of a puzzle, which doesn't change as long as the play goes on.
# That's why what is seen of a state, and what comes of it, is worked out once and kept in sights and trials.
class Play:
    def __init__(self, puzzle, belief, purse):
        self.puzzle = puzzle
        self.actual = tuple(puzzle.begins)
        self.belief = belief
        self.purse = purse
        self.past = []
        self.sights = {}
        self.trials = {}


def seen_in(play, state):
    if state not in play.sights:
        play.sights[state] = what_is_seen(play.puzzle, state)
    return play.sights[state]


def trial(play, state, doing):
    """What's noticed as the doing is tried, (1 if it was done else 0, what's seen then), and the state behind it."""
    behind = state_behind(play.puzzle, doing, state)
    if behind is None:
        return ((0, seen_in(play, state)), state)
    return ((1, seen_in(play, behind)), behind)


def trials_in(play, state):
    """The trial of each doing in the state, by the doings' numbers."""
    if state not in play.trials:
        play.trials[state] = [trial(play, state, doing) for doing in play.puzzle.doings]
    return play.trials[state]


def beliefs_by_noticed(play, belief, number):
    """For each row that may be noticed as the doing is tried, as these come first: the belief then."""
    groups = {}
    for state in belief:
        tried = trials_in(play, state)[number]
        group = groups.setdefault(tried[0], {})
        group[tried[1]] = True
    return groups


def beliefs_behind(play, belief, number):
    """The beliefs to which the doing may lead, in order; none if it may not be tried."""
    groups = beliefs_by_noticed(play, belief, number)
    if not any([noticed[0] == 1 for noticed in groups]):
        return []
    return [tuple(group) for group in groups.values()]


def try_doing(play, number):
    """Tries the doing in the actual state; gives back 1 if it was done, else 0."""
    tried = trials_in(play, play.actual)[number]
    noticed = tried[0]
    play.belief = tuple(beliefs_by_noticed(play, play.belief, number)[noticed])
    play.actual = tried[1]
    play.past.append((0, number, noticed[0]) + noticed[1])
    return noticed[0]


def states_left(play, number):
    """The belief that the fact leaves."""
    needs = play.puzzle.facts[number][1]
    return tuple([state for state in play.belief if are_needs_met(needs, state)])


def bar_of(play, number):
    """0 if the fact can be told; else 1 if it doesn't hold, 2 if it's no news, 3 if it's too dear."""
    fact = play.puzzle.facts[number]
    if not are_needs_met(fact[1], play.actual):
        return 1
    if len(states_left(play, number)) == len(play.belief):
        return 2
    if fact[0] > play.purse:
        return 3
    return 0


def tell_fact(play, number):
    play.belief = states_left(play, number)
    play.purse = play.purse - play.puzzle.facts[number][0]
    play.past.append((1, number))
