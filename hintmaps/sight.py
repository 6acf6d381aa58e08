"""The way out for whoever sees all."""

from hintmaps.play import trials_in
from hintmaps.puzzle import is_end

MOST_STATES = 200


def states_in_reach(play):
    """The states that can be come to from the actual one, and it; None if they're too many."""
    reach = [play.actual]
    places = {play.actual: True}
    at = 0
    while at < len(reach):
        tried = trials_in(play, reach[at])
        for noticed, behind in tried:
            if behind not in places:
                places[behind] = True
                reach.append(behind)
        if len(reach) > MOST_STATES:
            return None
        at = at + 1
    return reach


def states_before(play, reach):
    """For each state those from which a doing comes to it."""
    before = {}
    for state in reach:
        for noticed, behind in trials_in(play, state):
            before.setdefault(behind, []).append(state)
    return before


def distances_to_end(play, reach):
    """For each state in reach from which an end can be come to: in how few doings."""
    before = states_before(play, reach)
    row = [state for state in reach if is_end(play.puzzle, state)]
    distances = dict([(state, 0) for state in row])
    at = 0
    while at < len(row):
        farther = distances[row[at]] + 1
        earlier = before.get(row[at], [])
        for state in earlier:
            if state not in distances:
                distances[state] = farther
                row.append(state)
        at = at + 1
    return distances


def sight_of(play):
    """In how few doings an end can be come to (-1: it can't), and 1 plus the first such doing, or 0.

    None if too many states are in reach.
    """
    reach = states_in_reach(play)
    if reach is None:
        return None
    distances = distances_to_end(play, reach)
    if play.actual not in distances:
        return (-1, 0)
    distance = distances[play.actual]
    for doing, tried in enumerate(trials_in(play, play.actual)):
        if distances.get(tried[1]) == distance - 1:
            return (distance, doing + 1)
    return (distance, 0)
