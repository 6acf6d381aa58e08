"""Forms of rows (-100), ranges of arguments (-1), no play (-2), and which refusal comes first."""

import unittest

from helper import (ADD, BELIEF, COPY, IS, SET, SWAP, ask, bar, doing, fact, goal, last, maybe, play, see, start,
                    tell, var)

LEAST, GREATEST = -2 ** 63, 2 ** 63 - 1
# How many plain numbers the calls without lists have.
PLAIN = {0: 0, 1: 2, 5: 3, 7: 1, 8: 1, 9: 0, 10: 0, 11: 0, 12: 1, 13: 1, 14: 0, 15: 1, 16: 1, 17: 1, 18: 1, 19: 1,
         20: 0, 21: 0, 22: 0}
EIGHT = [var(50, 0)] * 8


class Forms(unittest.TestCase):
    def refused(self, row):
        self.assertEqual(last(row), [-100], row)

    def test_places_that_are_none(self):
        for place in (-1, 23, 24, 100, -100, LEAST, GREATEST):
            self.refused([place])
            self.refused([place, 1])

    def test_an_empty_row(self):
        self.refused([])

    def test_plain_calls_with_too_few_or_too_many_numbers(self):
        for place, count in PLAIN.items():
            for wrong in range(6):
                if wrong != count:
                    self.refused([place] + [1] * wrong)

    def test_plain_calls_with_their_numbers_have_a_form(self):
        for place, count in PLAIN.items():
            self.assertNotEqual(last([place] + [1] * count), [-100], place)

    def test_lists_that_do_not_fit_the_row(self):
        for row in ([3], [3, 1], [3, -1], [3, 3, 0, 0], [3, 3, 0, 0, 0, 0], [3, 0, 0], [3, LEAST], [3, GREATEST],
                    [4], [4, 0], [4, 0, 1], [4, 0, -1], [4, 0, 0, 0], [4, 0, 3, 0, 0],
                    [6], [6, 0], [6, 0, 1], [6, 0, -1], [6, 0, 0, 0], [6, 0, 3, 0, 0],
                    [2], [2, 0], [2, 3, 0, 0, 0], [2, 0, 1], [2, 1, 0], [2, 0, 0, 0], [2, -1, 0], [2, 0, -1],
                    [2, -1, 0, 0], [2, -2, 0, 0], [2, 3, 0, 0, 0, 3, 0, 0], [2, 4, 0, 0, 0, 0]):
            self.refused(row)

    def test_a_negative_count_does_not_go_back_in_the_row(self):
        for row in ([2, 3, 0, 0, 0, -4], [4, 0, -2, 0], [2, -2, 0], [2, -3, 3], [2, -1, 0, 1], [2, -4, 0, 0]):
            self.refused(row)

    def test_a_row_without_form_changes_nothing(self):
        self.assertEqual(ask(var(3, 1), start(), [1, 3], [8], BELIEF)[-1], [1, 1])

    def test_form_comes_before_range(self):
        self.refused([1, 99])
        self.refused([5, 9, 99])
        self.refused([8, 20, 0])
        self.refused([3, 31, 9])


class Ranges(unittest.TestCase):
    def edges(self, inside, outside, before=()):
        for row in inside:
            self.assertNotIn(last(*before, row), ([-1], [-100]), row)
        for row in outside:
            self.assertEqual(last(*before, row), [-1], row)

    def test_var(self):
        self.edges([[1, 1, 0], [1, 50, 0], [1, 50, 49], [1, 2, 1]],
                   [[1, 0, 0], [1, 51, 0], [1, -1, 0], [1, 0, -1], [1, 50, 50], [1, 1, 1], [1, 2, 2], [1, 2, -1],
                    [1, GREATEST, 0], [1, LEAST, LEAST]])

    def test_maybe(self):
        self.edges([[5, 0, 0, 0], [5, 7, 0, 49], [5, 0, 49, 49], [5, 0, 20, 20]],
                   [[5, -1, 0, 0], [5, 8, 0, 0], [5, 0, -1, 0], [5, 0, 50, 50], [5, 0, 49, 50], [5, 0, 0, 50],
                    [5, 0, 2, 1], [5, 0, 49, 48], [5, 0, -2, -1], [5, 0, 0, GREATEST]], EIGHT)

    def test_single_numbers(self):
        for place, least, greatest in ((7, 0, 10000), (8, 0, 19), (12, 1, 60), (13, 1, 60), (15, 0, 11),
                                       (16, 0, 11), (17, 1, 60), (18, 1, 60), (19, 1, 60)):
            self.edges([[place, least], [place, greatest]],
                       [[place, least - 1], [place, greatest + 1], [place, LEAST], [place, GREATEST]],
                       [start()])

    def test_see_and_fact(self):
        self.edges([[4, 0, 0], [4, 7, 0]], [[4, -1, 0], [4, 8, 0]], EIGHT)
        self.edges([[6, 0, 0], [6, 1000, 0]], [[6, -1, 0], [6, 1001, 0]])

    def rows_with_needs(self, numbers):
        listed = [len(numbers)] + numbers
        return ([3] + listed, [4, 0] + listed, [6, 0] + listed, [2] + listed + [0])

    def test_threes_of_needs(self):
        for three in ([0, 0, -1000], [7, 3, 1000], [7, 2, 1000], [0, 2, -1000], [0, 3, -1000]):
            self.edges(self.rows_with_needs(three), [], EIGHT)
        for three in ([-1, 0, 0], [8, 0, 0], [0, -1, 0], [0, 4, 0], [0, 0, -1001], [0, 0, 1001], [0, 3, 1001],
                      [0, 2, -1001]):
            self.edges([], self.rows_with_needs(three), EIGHT)
            self.edges([], self.rows_with_needs([0, 0, 0] + three), EIGHT)

    def test_threes_of_effects(self):
        for three in ([0, 0, -1000], [7, 1, 1000], [7, 2, 0], [0, 2, 7], [0, 3, 0], [7, 3, 7]):
            self.edges([[2, 0, 3] + three], [], EIGHT)
        for three in ([-1, 0, 0], [8, 0, 0], [0, -1, 0], [0, 4, 0], [0, 0, -1001], [0, 1, 1001], [0, 2, 8],
                      [0, 2, -1], [0, 3, 8], [0, 3, -1]):
            self.edges([], [[2, 0, 3] + three, [2, 0, 6, 0, 0, 0] + three], EIGHT)

    def test_lengths_of_lists(self):
        for count in (0, 3, 27, 30):
            self.edges(self.rows_with_needs([0] * count), [], EIGHT)
            self.edges([[2, 0, count] + [0] * count], [], EIGHT)
        for count in (1, 2, 4, 28, 29, 31, 32, 33, 60):
            self.edges([], self.rows_with_needs([0] * count), EIGHT)
            self.edges([], [[2, 0, count] + [0] * count], EIGHT)

    def test_both_lists_full(self):
        self.edges([[2, 30] + [0] * 30 + [30] + [0] * 30], [[2, 30] + [0] * 30 + [33] + [0] * 33], EIGHT)


class Order(unittest.TestCase):
    def test_range_comes_before_no_play(self):
        self.assertEqual(ask([8, 20], [12, 0], [15, 12], [18, 61]), [[-1]] * 4)

    def test_no_play_in_the_calls_from_8_on(self):
        for place in range(8, 23):
            self.assertEqual(last([place] + [1] * PLAIN[place]), [-2], place)
            self.assertEqual(last(var(2, 0), doing([], []), fact(0), [place] + [1] * PLAIN[place]), [-2], place)

    def test_no_play_comes_before_the_own_refusals(self):
        self.assertEqual(ask(play(0), bar(0), tell(0)), [[-2]] * 3)
        self.assertEqual(ask(start(), play(0), bar(0), tell(0))[1:], [[-3]] * 3)

    def test_range_comes_before_what_is_not_there(self):
        self.assertEqual(ask(goal((5, IS, 1001)), goal((5, IS, 1000))), [[-1], [-3]])
        self.assertEqual(ask(doing([], [(5, COPY, 8)]), doing([], [(5, COPY, 7)])), [[-1], [-3]])
        self.assertEqual(ask(maybe(5, 3, 2), maybe(5, 2, 3)), [[-1], [-3]])
        self.assertEqual(ask(see(3, (8, IS, 0)), see(3, (7, IS, 0))), [[-1], [-3]])

    def test_what_is_not_there_comes_before_what_is_too_many(self):
        gone = (1, IS, 0)
        self.assertEqual(last(var(2, 0), *[doing([], [])] * 20, doing([gone], [])), [-3])
        self.assertEqual(last(var(2, 0), *[doing([], [])] * 20, doing([], [(0, SWAP, 1)])), [-3])
        self.assertEqual(last(var(2, 0), *[see(0)] * 20, see(0, gone)), [-3])
        self.assertEqual(last(var(2, 0), *[see(0)] * 20, see(1)), [-3])
        self.assertEqual(last(var(2, 0), *[fact(0)] * 12, fact(0, gone)), [-3])

    def test_too_great_comes_before_not_around_the_beginning(self):
        self.assertEqual(ask(var(3, 0), maybe(0, 1, 3), maybe(0, 1, 2))[1:], [[-4], [-5]])

    def test_effects_with_how_0_and_1_name_no_second_variable(self):
        self.assertEqual(ask(var(2, 0), doing([], [(0, SET, 5), (0, ADD, 5)])), [[0], [0]])


if __name__ == "__main__":
    unittest.main()
