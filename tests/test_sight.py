"""Promise 14: the way out for whoever sees all."""

import unittest

from helper import (ACTUAL, ADD, BELIEF, FROM, IS, PAST, SET, SIGHT, ask, doing, goal, last, maybe, play, start, var)

# 200 states can be come to.
GRID = [var(50, 0), var(4, 0), var(2, 0), doing([], [(0, ADD, 1)]), doing([], [(1, ADD, 1)])]
# One more, from the last of them.
ONE_MORE = doing([(0, IS, 49), (1, IS, 3)], [(2, SET, 1)])


class Sight(unittest.TestCase):
    def test_at_an_end(self):
        self.assertEqual(last(var(2, 0), doing([], [(0, SET, 1)]), start(), SIGHT), [0, 0])

    def test_no_way(self):
        self.assertEqual(last(var(3, 0), doing([], [(0, SET, 1)]), goal((0, IS, 2)), start(), SIGHT), [-1, 0])
        self.assertEqual(last(var(3, 0), goal((0, IS, 2)), start(), SIGHT), [-1, 0])

    def test_in_how_few_and_the_first_doing(self):
        puzzle = [var(20, 0), doing([], [(0, ADD, 1)]), doing([], [(0, ADD, 5)]), doing([], [(0, ADD, 5)])]
        self.assertEqual(last(*puzzle, goal((0, IS, 1)), start(), SIGHT), [1, 1])
        self.assertEqual(last(*puzzle, goal((0, IS, 10)), start(), SIGHT), [2, 2])
        self.assertEqual(last(*puzzle, goal((0, IS, 12)), start(), SIGHT), [4, 1])
        self.assertEqual(last(*puzzle, goal((0, FROM, 14)), start(), SIGHT), [3, 2])

    def test_the_nearest_of_several_ends(self):
        self.assertEqual(last(var(9, 4), doing([], [(0, ADD, 1)]), doing([], [(0, ADD, -1)]), goal((0, FROM, 7)),
                              start(), SIGHT), [3, 1])
        self.assertEqual(last(var(9, 4), doing([], [(0, ADD, 1)]), doing([], [(0, SET, 0)]), goal((0, IS, 0)),
                              start(), SIGHT), [1, 2])

    def test_a_doing_that_can_not_be_done_is_no_way(self):
        self.assertEqual(last(var(3, 0), doing([(0, IS, 1)], [(0, SET, 2)]), doing([], [(0, ADD, 3)]),
                              doing([(0, IS, 0)], [(0, SET, 1)]), goal((0, IS, 2)), start(), SIGHT), [2, 3])

    def test_from_the_actual_state_whatever_is_held_for_possible(self):
        puzzle = [var(4, 2), maybe(0, 0, 3), doing([], [(0, ADD, 1)]), goal((0, IS, 3))]
        self.assertEqual(ask(*puzzle, start(), SIGHT, play(0), SIGHT)[-3:], [[1, 1], [1, 3], [0, 0]])

    def test_200_states(self):
        self.assertEqual(last(*GRID, goal((0, IS, 49), (1, IS, 3)), start(), SIGHT), [52, 1])
        self.assertEqual(last(*GRID, goal((2, IS, 1)), start(), SIGHT), [-1, 0])
        self.assertEqual(last(*GRID, goal((1, IS, 3)), start(), SIGHT), [3, 2])

    def test_201_states(self):
        self.assertEqual(last(*GRID, ONE_MORE, goal((2, IS, 1)), start(), SIGHT), [-6])
        self.assertEqual(last(*GRID, ONE_MORE, goal((0, IS, 1)), start(), SIGHT), [-6])

    def test_too_many_at_an_end_too(self):
        self.assertEqual(last(*GRID, ONE_MORE, start(), SIGHT), [-6])
        self.assertEqual(last(*GRID, start(), SIGHT), [0, 0])

    def test_what_can_not_be_come_to_does_not_count(self):
        self.assertEqual(ask(*GRID, ONE_MORE, goal((2, IS, 1)), start(), SIGHT, play(0), SIGHT)[-3:],
                         [[-6], [1, 1], [52, 1]])

    def test_far_too_many(self):
        steps = [doing([], [(number, ADD, 1)]) for number in range(8)]
        self.assertEqual(last(*[var(50, 0)] * 8, *steps, start(), SIGHT), [-6])

    def test_it_changes_nothing(self):
        self.assertEqual(ask(*GRID, start(), SIGHT, ACTUAL, BELIEF, PAST)[-3:], [[3, 0, 0, 0], [1, 0, 0, 0], [0]])


if __name__ == "__main__":
    unittest.main()
