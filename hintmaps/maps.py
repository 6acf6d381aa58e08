"""Maps of beliefs: exploring, levels, hints, strategies, and the weakest fact that leads on."""

from hintmaps.play import bar_of, beliefs_behind, states_left
from hintmaps.puzzle import is_end


# The beliefs found so far, by number, with room for so many.
# ways has for each belief gone through its doings on the map: (doing, the numbers of the beliefs
# to which it may lead, one for each row that may be noticed). numbers has each belief's number.
class BeliefMap:
    def __init__(self, room):
        self.room = room
        self.over = False
        self.beliefs = []
        self.ways = []
        self.numbers = {}


def number_on_map(chart, belief):
    """The belief's number, put on the map if it's new; None, and the map is over, if there's no room for it."""
    # Beliefs are one if they have the same states, in whatever order.
    states = tuple(sorted(belief))
    if states in chart.numbers:
        return chart.numbers[states]
    if len(chart.beliefs) >= chart.room:
        chart.over = True
        return None
    chart.numbers[states] = len(chart.beliefs)
    chart.beliefs.append(belief)
    return chart.numbers[states]


def ways_from(play, chart, belief):
    ways = []
    for doing in range(len(play.puzzle.doings)):
        reached = [number_on_map(chart, led) for led in beliefs_behind(play, belief, doing)]
        if len(reached) > 0 and None not in reached:
            ways.append((doing, reached))
    return ways


def explore(play, belief, room):
    chart = BeliefMap(room)
    number_on_map(chart, belief)
    at = 0
    while at < len(chart.beliefs):
        chart.ways.append(ways_from(play, chart, chart.beliefs[at]))
        at = at + 1
    return chart


def is_all_ends(play, belief):
    return all([is_end(play.puzzle, state) for state in belief])


def has_sure_way(ways, levels):
    for doing, reached in ways:
        if all([levels[number] is not None for number in reached]):
            return True
    return False


def levels_of(play, chart):
    """Each belief's level, None if it has none, on a map that isn't over."""
    levels = [0 if is_all_ends(play, belief) else None for belief in chart.beliefs]
    level = 0
    is_growing = True
    while is_growing:
        level = level + 1
        # All are found before one is given its level: none may stand on another one of the same level.
        found = [number for number, ways in enumerate(chart.ways)
                 if levels[number] is None and has_sure_way(ways, levels)]
        for number in found:
            levels[number] = level
        is_growing = len(found) > 0
    return levels


def leads_one_down(reached, levels, level):
    depths = [levels[number] for number in reached]
    return None not in depths and max(depths) == level - 1


def hint_at(chart, levels, number):
    """The hint's way, (doing, the beliefs' numbers), at a belief with a level; None at level 0."""
    for doing, reached in chart.ways[number]:
        if leads_one_down(reached, levels, levels[number]):
            return (doing, reached)
    return None


def strategy_on(chart, levels):
    """The numbers of the strategy's beliefs, in its order, from the map's first one, which has a level."""
    row = [0]
    at = 0
    while at < len(row):
        way = hint_at(chart, levels, row[at])
        if way is not None:
            for number in way[1]:
                if number not in row:
                    row.append(number)
        at = at + 1
    return row


def level_left(play, belief, room):
    """The belief's level by a map of its own; None if it has none or the map is over."""
    chart = explore(play, belief, room)
    if chart.over:
        return None
    return levels_of(play, chart)[0]


def weakest_fact(play, room):
    """The weakest fact that leads on, as (fact, how many states it leaves, its price, the level then), or None."""
    tellable = []
    for number, fact in enumerate(play.puzzle.facts):
        if bar_of(play, number) == 0:
            # Sorted so, the weakest comes first, and the first that leads on is the one looked for.
            tellable.append((0 - len(states_left(play, number)), fact[0], number))
    for lost, price, number in sorted(tellable):
        level = level_left(play, states_left(play, number), room)
        if level is not None:
            return (number, 0 - lost, price, level)
    return None
