"""The interface: what is handed in stays as it is, nothing is kept, printed, read or imported."""

import builtins
import unittest
from unittest import mock

from helper import (ACTUAL, ADD, BELIEF, CLEAR, IS, KNOWN, PAST, PURSE, SET, SIGHT, VIEW, ask, bar, chart, doing, fact,
                    flat, goal, hint, lead, level, maybe, play, see, start, strategy, tell, var)
from hintmaps.game import answers

EVERY_CALL = flat([
    CLEAR, var(4, 1), var(3, 0), doing([(1, IS, 0)], [(0, ADD, 1)]), doing([], [(1, SET, 1)]), goal((1, IS, 1)),
    see(0, (1, IS, 1)), maybe(0, 0, 2), fact(2, (0, IS, 1)), start(5), play(0), VIEW, BELIEF, KNOWN, level(), hint(),
    SIGHT, bar(0), tell(0), lead(), chart(), strategy(), ACTUAL, PAST, PURSE, [], [99], [1, 0, 0], play(7)])


class Frozen(list):
    """A list that can't be changed, not for a while either."""

    def refuse(self, *given, **named):
        raise AssertionError("what was handed in was changed")

    append = clear = extend = insert = pop = remove = reverse = sort = refuse
    __setitem__ = __delitem__ = __iadd__ = __imul__ = refuse


class Handing(unittest.TestCase):
    def test_each_answer_stands_behind_its_count(self):
        self.assertEqual(answers([0, 3, 1, 4, 2]), [1, 0])
        self.assertEqual(answers([0, 3, 1, 4, 2, 0, 2, 7, 3, 0, 1, 20, 0, 1, 10, 0, 1, 23, 0, 0, 0, 2, 8, 0]),
                         [1, 0, 1, 1, 2, 1, 2, 2, 1, 2, 1, -100, 1, -100, 1, -3])

    def test_refusals_are_one_number(self):
        self.assertEqual(answers([0, 1, 9, 0, 2, 1, 1, 0, 3, 1, 0, 0]), [1, -2, 1, -100, 1, -1])

    def test_minus_one_of_level_and_sight_are_answers(self):
        rows = flat([var(2, 0), goal((0, IS, 1)), start(), level(), SIGHT])
        self.assertEqual(answers(rows)[-5:], [1, -1, 2, -1, 0])

    def test_the_first_number_of_a_row_may_be_that_of_a_new_call(self):
        self.assertEqual(ask([0], [0], [0, 0], [0, 0, 0]), [[0], [0], [-100], [-100]])

    def test_a_hundred_calls_of_80_numbers(self):
        row = [2, 30] + [0, 3, 0] * 10 + [30] + [0, 0, 0] * 10
        self.assertEqual(len(row), 63)
        wide = [3, 78] + [0] * 78
        self.assertEqual(ask(var(1, 0), *[row] * 20, *[wide] * 79), [[0]] + [[n] for n in range(20)] + [[-1]] * 79)

    def test_whole_numbers_in_a_list(self):
        answered = answers(EVERY_CALL)
        self.assertIs(type(answered), list)
        self.assertEqual({type(number) for number in answered}, {int})

    def test_what_is_handed_in_is_the_same_behind_the_call(self):
        handed = list(EVERY_CALL)
        answers(handed)
        self.assertEqual(handed, EVERY_CALL)

    def test_what_is_handed_in_is_not_changed_for_a_while(self):
        self.assertEqual(answers(Frozen(EVERY_CALL)), answers(EVERY_CALL))

    def test_what_is_given_back_is_new(self):
        first = answers(EVERY_CALL)
        kept = list(first)
        first.clear()
        self.assertEqual(answers(EVERY_CALL), kept)


class NothingKept(unittest.TestCase):
    def test_a_second_time_answers_as_the_first(self):
        first = answers(EVERY_CALL)
        self.assertEqual(answers(EVERY_CALL), first)

    def test_another_list_between_changes_nothing(self):
        first = answers(EVERY_CALL)
        answers(flat([var(2, 1), doing([], []), goal((0, IS, 0)), see(0), fact(0), start(9), play(0)]))
        self.assertEqual(answers(EVERY_CALL), first)

    def test_the_object_is_new_at_the_beginning(self):
        answers(flat([var(2, 1), doing([], []), start(9)]))
        self.assertEqual(ask(ACTUAL, start(), play(0), ACTUAL, var(3, 0)), [[-2], [1], [-3], [0], [0]])


class Quiet(unittest.TestCase):
    def test_nothing_is_printed_read_or_imported(self):
        def refuse(*given, **named):
            raise AssertionError("called")

        expected = answers(EVERY_CALL)
        with mock.patch.multiple(builtins, print=refuse, open=refuse, input=refuse, __import__=refuse):
            answered = answers(EVERY_CALL)
        self.assertEqual(answered, expected)


if __name__ == "__main__":
    unittest.main()
