"""Promises 1 to 6 and clear: telling a puzzle."""

import unittest

from helper import (ACTUAL, ADD, BELIEF, BELOW, CLEAR, COPY, FROM, IS, IS_NOT, KNOWN, PAST, PURSE, SET, SIGHT, SWAP,
                    VIEW, ask, bar, chart, doing, fact, goal, last, level, maybe, play, see, start, var)

# A row of each telling call that isn't refused behind var(3, 1), and one that is.
TAKEN = (var(2, 0), doing([], []), goal((0, IS, 1)), see(0), maybe(0, 0, 2), fact(3))
REFUSED = (var(0, 0), doing([(1, IS, 0)], []), goal((1, IS, 1)), see(1), maybe(0, 0, 3), maybe(0, 0, 0),
           fact(3, (1, IS, 1)))


class Telling(unittest.TestCase):
    def test_there_is_no_play_then(self):
        for row in TAKEN:
            self.assertEqual(last(var(3, 1), start(), row, ACTUAL), [-2], row)

    def test_a_refused_one_leaves_the_play(self):
        for row in REFUSED:
            self.assertEqual(last(var(3, 1), start(5), row, ACTUAL), [1, 1], row)
            self.assertEqual(last(var(3, 1), start(5), row, PURSE), [5], row)

    def test_a_refused_one_leaves_the_puzzle(self):
        puzzle = [var(3, 1), maybe(0, 1, 2), doing([], [(0, ADD, 1)]), goal((0, IS, 2)), see(0, (0, IS, 2)),
                  fact(2, (0, IS, 1))]
        asked = [start(9), BELIEF, VIEW, SIGHT, bar(0), level(), chart(), PAST]
        plain = ask(*puzzle, *asked)[len(puzzle):]
        for row in REFUSED:
            self.assertEqual(ask(*puzzle, row, *asked)[len(puzzle) + 1:], plain, row)


class Clear(unittest.TestCase):
    def test_the_object_is_new(self):
        answers = ask(var(3, 1), var(2, 0), doing([], []), goal((0, IS, 2)), see(0), fact(0), start(7), CLEAR,
                      ACTUAL, start(1), BELIEF, VIEW, KNOWN, play(0), bar(0), SIGHT, PURSE, PAST, var(4, 3))
        self.assertEqual(answers[7:], [[0], [-2], [1], [1], [0], [0], [-3], [-3], [0, 0], [1], [0], [0]])

    def test_a_new_object_has_no_play(self):
        self.assertEqual(ask(CLEAR, ACTUAL), [[0], [-2]])

    def test_room_is_there_again(self):
        full = [var(1, 0)] * 8 + [doing([], [])] * 20 + [see(0)] * 20 + [fact(0)] * 12
        self.assertEqual(ask(*full, CLEAR, var(2, 1), doing([], []), see(0), fact(0))[60:], [[0]] * 5)


class Var(unittest.TestCase):
    def test_numbers_from_0(self):
        self.assertEqual(ask(*[var(5, 4)] * 8), [[number] for number in range(8)])

    def test_no_ninth(self):
        self.assertEqual(ask(*[var(5, 4)] * 8, var(5, 4), start(), ACTUAL)[8:], [[-4], [1], [8] + [4] * 8])

    def test_it_begins_with_its_beginning_alone(self):
        self.assertEqual(ask(var(50, 49), var(3, 1), start(), ACTUAL, BELIEF)[2:], [[1], [2, 49, 1], [1, 49, 1]])


class Doing(unittest.TestCase):
    def behind(self, sizes, begins, needs, effects):
        """Whether the doing was done, and the values then."""
        puzzle = [var(size, begin) for size, begin in zip(sizes, begins)]
        answers = ask(*puzzle, doing(needs, effects), start(), play(0), ACTUAL)
        self.assertEqual(answers[-2][1], 1)
        return (answers[-2][0], answers[-1][1:])

    def test_numbers_from_0_to_19(self):
        answers = ask(var(2, 0), *[doing([], [])] * 21, start(), play(19))
        self.assertEqual(answers[1:], [[number] for number in range(20)] + [[-4], [1], [1, 1]])

    def test_variables_that_are_not_there(self):
        for needs, effects in (([(2, IS, 0)], []), ([(0, IS, 0), (7, IS, 0)], []), ([], [(2, SET, 0)]),
                               ([], [(0, SET, 0), (2, ADD, 0)]), ([], [(0, COPY, 2)]), ([], [(1, SWAP, 2)]),
                               ([], [(2, SWAP, 0)]), ([], [(0, SWAP, 1), (0, COPY, 7)])):
            self.assertEqual(last(var(3, 0), var(3, 0), doing(needs, effects)), [-3], (needs, effects))
        self.assertEqual(last(var(3, 0), var(3, 0), doing([(1, IS, 0)], [(0, COPY, 1), (1, SWAP, 0)])), [0])

    def test_each_how_of_needs(self):
        for how, met in ((IS, (2,)), (IS_NOT, (0, 1, 3, 4)), (BELOW, (0, 1)), (FROM, (2, 3, 4))):
            for value in range(5):
                done = self.behind([5], [value], [(0, how, 2)], [])[0]
                self.assertEqual(done, 1 if value in met else 0, (how, value))

    def test_needs_of_numbers_that_no_value_has(self):
        for how, number, done in ((IS, -1, 0), (IS_NOT, -1, 1), (BELOW, -1, 0), (FROM, -1, 1), (IS, 1000, 0),
                                  (IS_NOT, 1000, 1), (BELOW, 1000, 1), (FROM, 1000, 0)):
            self.assertEqual(self.behind([3], [0], [(0, how, number)], [])[0], done, (how, number))

    def test_all_needs_have_to_be_met(self):
        self.assertEqual(self.behind([3, 3], [1, 2], [(0, IS, 1), (1, IS, 2)], [(0, SET, 0)]), (1, [0, 2]))
        self.assertEqual(self.behind([3, 3], [1, 2], [(0, IS, 1), (1, IS, 1)], [(0, SET, 0)]), (0, [1, 2]))
        self.assertEqual(self.behind([3, 3], [1, 2], [(0, IS, 2), (1, IS, 2)], [(0, SET, 0)]), (0, [1, 2]))

    def test_needs_are_looked_at_ahead_of_the_effects(self):
        self.assertEqual(self.behind([3], [0], [(0, IS, 1)], [(0, SET, 1)]), (0, [0]))

    def test_becomes(self):
        self.assertEqual(self.behind([3], [0], [], [(0, SET, 2)]), (1, [2]))
        self.assertEqual(self.behind([3], [1], [], [(0, SET, 3)]), (0, [1]))
        self.assertEqual(self.behind([3], [1], [], [(0, SET, -1)]), (0, [1]))

    def test_becomes_more_or_less(self):
        self.assertEqual(self.behind([4], [1], [], [(0, ADD, 2)]), (1, [3]))
        self.assertEqual(self.behind([4], [1], [], [(0, ADD, 3)]), (0, [1]))
        self.assertEqual(self.behind([4], [1], [], [(0, ADD, -1)]), (1, [0]))
        self.assertEqual(self.behind([4], [1], [], [(0, ADD, -2)]), (0, [1]))

    def test_becomes_that_of_another(self):
        self.assertEqual(self.behind([5, 3], [0, 2], [], [(0, COPY, 1)]), (1, [2, 2]))
        self.assertEqual(self.behind([5, 3], [2, 0], [], [(1, COPY, 0)]), (1, [2, 2]))
        self.assertEqual(self.behind([5, 3], [3, 0], [], [(1, COPY, 0)]), (0, [3, 0]))
        self.assertEqual(self.behind([5], [3], [], [(0, COPY, 0)]), (1, [3]))

    def test_exchanged(self):
        self.assertEqual(self.behind([5, 3, 9], [1, 2, 8], [], [(0, SWAP, 1)]), (1, [2, 1, 8]))
        self.assertEqual(self.behind([5, 3], [1, 2], [], [(1, SWAP, 0)]), (1, [2, 1]))
        self.assertEqual(self.behind([5, 3], [3, 2], [], [(0, SWAP, 1)]), (0, [3, 2]))
        self.assertEqual(self.behind([5, 3], [3, 2], [], [(1, SWAP, 0)]), (0, [3, 2]))
        self.assertEqual(self.behind([5, 3], [3, 2], [], [(0, SWAP, 0)]), (1, [3, 2]))

    def test_effects_come_one_after_another(self):
        self.assertEqual(self.behind([5, 5], [1, 0], [], [(0, ADD, 1), (1, COPY, 0), (0, ADD, 2)]), (1, [4, 2]))
        self.assertEqual(self.behind([5, 5], [1, 0], [], [(1, COPY, 0), (0, ADD, 1)]), (1, [2, 1]))

    def test_each_effect_leaves_the_range_kept(self):
        self.assertEqual(self.behind([3], [1], [], [(0, ADD, 2), (0, ADD, -2)]), (0, [1]))
        self.assertEqual(self.behind([3], [1], [], [(0, ADD, -2), (0, SET, 0)]), (0, [1]))
        self.assertEqual(self.behind([3], [1], [], [(0, ADD, 1), (0, ADD, -2)]), (1, [0]))

    def test_what_can_not_be_done_changes_nothing(self):
        self.assertEqual(self.behind([3, 3], [1, 1], [], [(0, SET, 2), (1, SET, 3)]), (0, [1, 1]))


class Goal(unittest.TestCase):
    def test_without_a_goal_all_states_are_ends(self):
        self.assertEqual(last(var(2, 0), start(), SIGHT), [0, 0])

    def test_all_needs_have_to_be_met(self):
        puzzle = [var(3, 1), var(3, 2)]
        self.assertEqual(last(*puzzle, goal((0, IS, 1), (1, FROM, 2)), start(), SIGHT), [0, 0])
        self.assertEqual(last(*puzzle, goal((0, IS, 1), (1, BELOW, 2)), start(), SIGHT), [-1, 0])

    def test_a_new_goal_stands_in_place_of_the_old_one(self):
        self.assertEqual(ask(var(3, 1), goal((0, IS, 2)), goal((0, IS, 1)), start(), SIGHT)[1:],
                         [[0], [0], [1], [0, 0]])
        self.assertEqual(last(var(3, 1), goal((0, IS, 2)), goal(), start(), SIGHT), [0, 0])

    def test_a_variable_that_is_not_there(self):
        self.assertEqual(ask(goal((0, IS, 0)), var(2, 0), goal((0, IS, 0)), goal((0, IS, 0), (1, IS, 0)), goal()),
                         [[-3], [0], [0], [-3], [0]])


class See(unittest.TestCase):
    def test_a_variable_without_views_is_never_seen(self):
        self.assertEqual(last(var(3, 1), var(3, 2), start(), VIEW), [2, 0, 0])

    def test_seen_where_the_needs_are_met(self):
        puzzle = [var(3, 1), var(3, 2), var(9, 8)]
        self.assertEqual(last(*puzzle, see(1), start(), VIEW), [4, 0, 1, 2, 0])
        self.assertEqual(last(*puzzle, see(0, (1, IS, 2), (2, IS, 8)), start(), VIEW), [4, 1, 1, 0, 0])
        self.assertEqual(last(*puzzle, see(0, (1, IS, 2), (2, IS, 7)), start(), VIEW), [3, 0, 0, 0])
        self.assertEqual(last(*puzzle, see(0), see(1), see(2), start(), VIEW), [6, 1, 1, 1, 2, 1, 8])

    def test_seen_by_any_of_its_views(self):
        self.assertEqual(last(var(3, 1), see(0, (0, IS, 0)), see(0, (0, IS, 1)), start(), VIEW), [2, 1, 1])
        self.assertEqual(last(var(3, 1), see(0, (0, IS, 1)), see(0, (0, IS, 0)), start(), VIEW), [2, 1, 1])
        self.assertEqual(last(var(3, 1), see(0, (0, IS, 2)), see(0, (0, IS, 0)), start(), VIEW), [1, 0])

    def test_variables_that_are_not_there(self):
        self.assertEqual(ask(see(0), var(2, 0), see(0), see(1), see(0, (1, IS, 0)), see(0, (0, IS, 0))),
                         [[-3], [0], [0], [-3], [-3], [0]])

    def test_no_view_behind_the_twentieth(self):
        answers = ask(var(2, 0), var(2, 1), *[see(0)] * 19, see(1), see(0), see(1), start(), VIEW)
        self.assertEqual(answers[2:], [[0]] * 20 + [[-4], [-4], [1], [4, 1, 0, 1, 1]])


class Maybe(unittest.TestCase):
    def test_values_from_least_to_greatest(self):
        self.assertEqual(ask(var(5, 2), maybe(0, 1, 4), start(), BELIEF)[1:], [[0], [4], [4, 1, 2, 3, 4]])
        self.assertEqual(last(var(50, 49), maybe(0, 49, 49), start(), BELIEF), [1, 49])

    def test_a_new_one_stands_in_place_of_the_old_one(self):
        self.assertEqual(last(var(5, 2), maybe(0, 0, 4), maybe(0, 2, 3), start(), BELIEF), [2, 2, 3])
        self.assertEqual(last(var(5, 2), maybe(0, 2, 3), maybe(0, 2, 2), start(), BELIEF), [1, 2])

    def test_refusals(self):
        self.assertEqual(ask(maybe(0, 0, 0), var(5, 2), maybe(1, 0, 0), maybe(0, 0, 5), maybe(0, 0, 4),
                             maybe(0, 0, 1), maybe(0, 3, 4), maybe(0, 0, 2), maybe(0, 2, 4)),
                         [[-3], [0], [-3], [-4], [0], [-5], [-5], [0], [0]])

    def test_a_refused_one_leaves_the_values(self):
        for row in (maybe(0, 0, 5), maybe(0, 3, 4), maybe(0, 2, 1)):
            self.assertEqual(last(var(5, 2), maybe(0, 1, 3), row, start(), BELIEF), [3, 1, 2, 3], row)


class Fact(unittest.TestCase):
    def test_numbers_from_0_to_11(self):
        answers = ask(var(2, 0), *[fact(1000)] * 13, start(), bar(11))
        self.assertEqual(answers[1:], [[number] for number in range(12)] + [[-4], [1], [2]])

    def test_a_variable_that_is_not_there(self):
        self.assertEqual(ask(fact(0, (0, IS, 0)), fact(0), var(2, 0), fact(0, (0, IS, 0)),
                             fact(0, (0, IS, 0), (7, IS, 0))), [[-3], [0], [0], [1], [-3]])


if __name__ == "__main__":
    unittest.main()
