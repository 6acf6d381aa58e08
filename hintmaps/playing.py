"""The calls on a play, from play to purse.

Each takes the play and the call's arguments, which are in their ranges, and gives back the answer's numbers.
"""

from hintmaps.maps import explore, hint_at, levels_of, strategy_on, weakest_fact
from hintmaps.play import bar_of, seen_in, tell_fact, try_doing
from hintmaps.rows import START
from hintmaps.sight import sight_of

MOST_PAST = 200

# What tell refuses with, by the fact's bar.
BAR_REFUSALS = (0, -5, -7, -8)


def with_count(numbers):
    return [len(numbers)] + list(numbers)


def answer_play(play, arguments):
    if arguments[0] >= len(play.puzzle.doings):
        return [-3]
    if len(play.past) >= MOST_PAST:
        return [-4]
    done = try_doing(play, arguments[0])
    return [done, len(play.belief)]


def answer_view(play, arguments):
    return with_count(seen_in(play, play.actual))


def answer_belief(play, arguments):
    answer = [len(play.belief)]
    for state in play.belief:
        answer.extend(state)
    return answer


def answer_known(play, arguments):
    pairs = []
    for variable, value in enumerate(play.belief[0]):
        if all([state[variable] == value for state in play.belief]):
            pairs.append(variable)
            pairs.append(value)
    return [len(pairs) // 2] + pairs


def answer_level(play, arguments):
    chart = explore(play, play.belief, arguments[0])
    if chart.over:
        return [-6]
    level = levels_of(play, chart)[0]
    return [-1 if level is None else level]


def answer_hint(play, arguments):
    chart = explore(play, play.belief, arguments[0])
    if chart.over:
        return [-6]
    levels = levels_of(play, chart)
    if levels[0] is None or levels[0] == 0:
        return [0]
    return [1, hint_at(chart, levels, 0)[0]]


def answer_sight(play, arguments):
    sight = sight_of(play)
    if sight is None:
        return [-6]
    return list(sight)


def answer_bar(play, arguments):
    if arguments[0] >= len(play.puzzle.facts):
        return [-3]
    return [bar_of(play, arguments[0])]


def answer_tell(play, arguments):
    number = arguments[0]
    if number >= len(play.puzzle.facts):
        return [-3]
    bar = bar_of(play, number)
    if bar != 0:
        return [BAR_REFUSALS[bar]]
    if len(play.past) >= MOST_PAST:
        return [-4]
    tell_fact(play, number)
    return [len(play.belief)]


def answer_lead(play, arguments):
    chart = explore(play, play.belief, arguments[0])
    if chart.over:
        return [-6]
    level = levels_of(play, chart)[0]
    if level is not None:
        return [2, level]
    weakest = weakest_fact(play, arguments[0])
    if weakest is None:
        return [0]
    return [1] + list(weakest)


def answer_map(play, arguments):
    chart = explore(play, play.belief, arguments[0])
    doings = sum([len(ways) for ways in chart.ways])
    return [len(chart.beliefs), 1 if chart.over else 0, doings]


def strategy_entry(chart, levels, row, number):
    entry = [len(chart.beliefs[number]), levels[number]]
    way = hint_at(chart, levels, number)
    if way is None:
        return entry + [-1, 0]
    places = [row.index(led) for led in way[1]]
    return entry + [way[0]] + with_count(places)


def answer_strategy(play, arguments):
    chart = explore(play, play.belief, arguments[0])
    if chart.over:
        return [-6]
    levels = levels_of(play, chart)
    if levels[0] is None:
        return [-4]
    row = strategy_on(chart, levels)
    answer = [len(row)]
    for number in row:
        answer.extend(strategy_entry(chart, levels, row, number))
    return answer


def answer_actual(play, arguments):
    return with_count(play.actual)


def answer_past(play, arguments):
    answer = [len(play.past)]
    for entry in play.past:
        answer.extend(with_count(entry))
    return answer


def answer_purse(play, arguments):
    return [play.purse]


# In the order of the calls' places, from the one behind the play's start on.
PLAY_CALLS = (
    answer_play,
    answer_view,
    answer_belief,
    answer_known,
    answer_level,
    answer_hint,
    answer_sight,
    answer_bar,
    answer_tell,
    answer_lead,
    answer_map,
    answer_strategy,
    answer_actual,
    answer_past,
    answer_purse,
)


def answer_on_play(play, place, arguments):
    return PLAY_CALLS[place - START - 1](play, arguments)
