"""The calls on one object, from a list of numbers to the list of their answers."""

from hintmaps.building import answer_on_puzzle
from hintmaps.play import Play
from hintmaps.playing import answer_on_play
from hintmaps.puzzle import Puzzle, beginnings_that_may_be, count_of_starts
from hintmaps.rows import CLEAR, START, are_in_range, arguments_of

MOST_STARTS = 400
MOST_BEGINNINGS = 40


# The object on which calls are made: a puzzle, and a play of it or None.
class Game:
    def __init__(self):
        self.puzzle = Puzzle()
        self.play = None


def clear_game(game):
    game.puzzle = Puzzle()
    game.play = None
    return [0]


def build_puzzle(game, place, arguments):
    answer = answer_on_puzzle(game.puzzle, place, arguments)
    # A refused call leaves the play as it was.
    if answer[0] >= 0:
        game.play = None
    return answer


def start_play(game, purse):
    # Counted before they're made: there may be far too many of them.
    if count_of_starts(game.puzzle) > MOST_STARTS:
        return [-4]
    belief = beginnings_that_may_be(game.puzzle)
    if len(belief) > MOST_BEGINNINGS:
        return [-5]
    game.play = Play(game.puzzle, belief, purse)
    return [len(belief)]


def answer_to(game, row):
    arguments = arguments_of(row)
    if arguments is None:
        return [-100]
    place = row[0]
    if not are_in_range(place, arguments):
        return [-1]
    if place == CLEAR:
        return clear_game(game)
    if place < START:
        return build_puzzle(game, place, arguments)
    if place == START:
        return start_play(game, arguments[0])
    if game.play is None:
        return [-2]
    return answer_on_play(game.play, place, arguments)


def answers(calls):
    """The answers to the calls, each behind how many numbers it has; each call is 0, its length, its row."""
    game = Game()
    answered = []
    at = 0
    while at < len(calls):
        behind = at + 2 + calls[at + 1]
        answer = answer_to(game, calls[at + 2:behind])
        answered.append(len(answer))
        answered.extend(answer)
        at = behind
    return answered
