"""Promises 7 and 8, and the calls that show a play: view, belief, known, actual, past, purse."""

import unittest

from helper import (ACTUAL, ADD, BELIEF, BELOW, COPY, FROM, IS, IS_NOT, KNOWN, PAST, PURSE, SET, SWAP, VIEW, ask, doing,
                    fact, goal, last, maybe, play, see, start, tell, var)


class Open(unittest.TestCase):
    def test_without_variables(self):
        self.assertEqual(ask(start(), BELIEF, VIEW, ACTUAL, KNOWN, PAST), [[1], [1], [0], [0], [0], [0]])

    def test_beginnings_in_the_order_of_the_first_variable(self):
        self.assertEqual(ask(var(3, 1), var(9, 8), var(4, 2), maybe(2, 1, 3), maybe(0, 0, 1), start(), BELIEF)[5:],
                         [[6], [6, 0, 8, 1, 0, 8, 2, 0, 8, 3, 1, 8, 1, 1, 8, 2, 1, 8, 3]])

    def test_what_is_seen_has_to_be_the_same(self):
        puzzle = [var(3, 1), var(3, 2), maybe(0, 0, 2), maybe(1, 0, 2)]
        self.assertEqual(last(*puzzle, see(0), start(), BELIEF), [3, 1, 0, 1, 1, 1, 2])
        # Where the second one is seen it's another value, so the beginning isn't mixed up with these.
        self.assertEqual(last(*puzzle, see(1, (0, IS, 0)), start(), BELIEF),
                         [6, 1, 0, 1, 1, 1, 2, 2, 0, 2, 1, 2, 2])

    def test_just_as_much_has_to_be_seen(self):
        # Of the beginning the second one is seen; where it isn't, the state may not be.
        self.assertEqual(last(var(3, 1), var(3, 2), maybe(0, 0, 2), see(1, (0, FROM, 1)), start(), BELIEF),
                         [2, 1, 2, 2, 2])
        self.assertEqual(last(var(3, 0), maybe(0, 0, 2), see(0, (0, IS, 2)), start(), BELIEF), [2, 0, 1])

    def test_a_value_that_is_not_seen_is_no_value_that_is(self):
        # (0 unseen, 1 seen as 0) and (1 seen as 0, 1 unseen) would be rows of the same numbers in another order.
        self.assertEqual(last(var(2, 0), var(2, 0), maybe(0, 0, 1), maybe(1, 0, 1), see(0, (1, IS, 1)),
                              see(1, (0, IS, 1)), start(), BELIEF), [1, 0, 0])

    def test_40_beginnings_and_41(self):
        self.assertEqual(last(var(50, 0), maybe(0, 0, 39), start()), [40])
        self.assertEqual(last(var(50, 0), maybe(0, 0, 40), start()), [-5])
        self.assertEqual(last(var(20, 0), var(20, 5), maybe(0, 0, 19), maybe(1, 4, 5), start()), [40])

    def test_a_product_of_400_and_one_of_more(self):
        self.assertEqual(last(var(20, 0), var(20, 0), maybe(0, 0, 19), maybe(1, 0, 19), see(1), start()), [20])
        self.assertEqual(last(var(20, 0), var(20, 0), maybe(0, 0, 19), maybe(1, 0, 19), start()), [-5])
        # 13 times 31 is 403.
        self.assertEqual(last(var(13, 0), var(31, 0), maybe(0, 0, 12), maybe(1, 0, 30), see(1), start()), [-4])
        self.assertEqual(last(var(13, 0), var(31, 0), maybe(0, 0, 12), maybe(1, 0, 29), see(1), start()), [13])

    def test_a_product_that_could_not_be_gone_through(self):
        spans = [maybe(number, 0, 49) for number in range(8)]
        self.assertEqual(last(*[var(50, 0)] * 8, *spans, start()), [-4])
        self.assertEqual(last(*[var(50, 0)] * 8, *spans, *[see(number) for number in range(8)], start()), [-4])

    def test_a_refused_one_begins_nothing(self):
        for greatest, refusal in ((8, -4), (7, -5)):
            answers = ask(var(50, 0), var(50, 0), maybe(0, 0, 49), maybe(1, 0, greatest), start(), ACTUAL)
            self.assertEqual(answers[4:], [[refusal], [-2]], greatest)

    def test_a_refused_one_leaves_the_play(self):
        self.assertEqual(ask(var(2, 0), doing([], [(0, SET, 1)]), start(3), play(0), start(10001), [7], ACTUAL,
                             PURSE)[4:], [[-1], [-100], [1, 1], [3]])

    def test_a_new_play_is_new(self):
        answers = ask(var(5, 1), maybe(0, 0, 3), doing([], [(0, ADD, 1)]), fact(4, (0, BELOW, 3)), start(10),
                      tell(0), play(0), PURSE, ACTUAL, BELIEF, start(7), PURSE, ACTUAL, BELIEF, PAST)
        self.assertEqual(answers[5:], [[3], [1, 3], [6], [1, 2], [3, 1, 2, 3],
                                       [4], [7], [1, 1], [4, 0, 1, 2, 3], [0]])


class Play(unittest.TestCase):
    def test_no_such_doing(self):
        self.assertEqual(ask(var(2, 0), start(), play(0), doing([], []), start(), play(1), play(0))[2:],
                         [[-3], [0], [1], [-3], [1, 1]])

    def test_done(self):
        self.assertEqual(ask(var(3, 0), doing([(0, BELOW, 2)], [(0, ADD, 1)]), start(), play(0), play(0), play(0),
                             ACTUAL, BELIEF, PAST)[3:],
                         [[1, 1], [1, 1], [0, 1], [1, 2], [1, 2], [3, 4, 0, 0, 1, 0, 4, 0, 0, 1, 0, 4, 0, 0, 0, 0]])

    def test_that_it_was_done_is_noticed(self):
        puzzle = [var(5, 2), maybe(0, 0, 4), doing([(0, BELOW, 2)], []), doing([(0, FROM, 2)], [])]
        self.assertEqual(ask(*puzzle, start(), play(0), BELIEF)[5:], [[0, 3], [3, 2, 3, 4]])
        self.assertEqual(ask(*puzzle, start(), play(1), BELIEF)[5:], [[1, 3], [3, 2, 3, 4]])

    def test_that_it_left_the_range_is_noticed(self):
        puzzle = [var(5, 2), maybe(0, 0, 4), doing([], [(0, ADD, 2)])]
        self.assertEqual(ask(*puzzle, start(), play(0), BELIEF, play(0), BELIEF)[4:],
                         [[1, 3], [3, 2, 3, 4], [0, 2], [2, 3, 4]])

    def test_what_is_seen_then_is_noticed(self):
        # Behind the doing the first one is seen where the second one is 1.
        puzzle = [var(4, 2), var(2, 0), maybe(0, 0, 3), see(0, (1, IS, 1), (0, FROM, 2)),
                  doing([], [(1, SET, 1)])]
        self.assertEqual(ask(*puzzle, start(), BELIEF, play(0), VIEW, BELIEF, PAST)[5:],
                         [[4], [4, 0, 0, 1, 0, 2, 0, 3, 0], [1, 1], [3, 1, 2, 0], [1, 2, 1],
                          [1, 6, 0, 0, 1, 1, 2, 0]])

    def test_what_is_seen_of_others_is_left_out(self):
        puzzle = [var(4, 0), var(2, 0), maybe(0, 0, 3), see(0, (1, IS, 1), (0, FROM, 2)),
                  doing([], [(1, SET, 1)])]
        self.assertEqual(ask(*puzzle, start(), play(0), BELIEF)[6:], [[1, 2], [2, 0, 1, 1, 1]])

    def test_each_state_once_where_it_comes_first(self):
        puzzle = [var(4, 3), var(4, 0), maybe(0, 0, 3), maybe(1, 0, 1)]
        # The order is that of the states of before, not that of the values then.
        self.assertEqual(ask(*puzzle, doing([], [(0, SET, 0)]), start(), play(0), BELIEF)[6:],
                         [[1, 2], [2, 0, 0, 0, 1]])
        self.assertEqual(ask(*puzzle, doing([], [(0, SWAP, 1)]), start(), play(0), BELIEF)[6:],
                         [[1, 8], [8, 0, 0, 1, 0, 0, 1, 1, 1, 0, 2, 1, 2, 0, 3, 1, 3]])
        self.assertEqual(ask(*puzzle, doing([], [(1, COPY, 0), (0, SET, 3)]), start(), play(0), BELIEF)[6:],
                         [[1, 4], [4, 3, 0, 3, 1, 3, 2, 3, 3]])

    def test_states_that_stay_and_states_that_come_there_are_apart(self):
        # 0 becomes 1, and 1 stays 1; but that it was done tells them apart.
        puzzle = [var(2, 0), maybe(0, 0, 1), doing([(0, IS, 0)], [(0, SET, 1)])]
        self.assertEqual(ask(*puzzle, start(), play(0), BELIEF, PAST)[4:], [[1, 1], [1, 1], [1, 4, 0, 0, 1, 0]])

    def test_a_doing_that_can_be_done_nowhere_is_tried_all_the_same(self):
        puzzle = [var(3, 0), maybe(0, 0, 2), doing([(0, IS, 9)], [])]
        self.assertEqual(ask(*puzzle, start(), play(0), BELIEF, PAST)[4:],
                         [[0, 3], [3, 0, 1, 2], [1, 4, 0, 0, 0, 0]])

    def test_at_an_end_things_can_be_done(self):
        self.assertEqual(ask(var(3, 0), doing([], [(0, ADD, 1)]), goal((0, IS, 0)), start(), play(0), ACTUAL)[4:],
                         [[1, 1], [1, 1]])

    def test_200_entries_are_past(self):
        plays = [play(0)] * 199
        answers = ask(var(2, 0), maybe(0, 0, 1), doing([], []), fact(1, (0, IS, 0)), fact(0, (0, IS, 1)),
                      fact(0), fact(9, (0, IS, 0)), start(5), *plays, play(0), play(0), play(1), tell(0), tell(1),
                      tell(2), tell(3), PURSE, BELIEF, PAST)
        self.assertEqual(answers[207:-1], [[1, 2], [-4], [-3], [-4], [-5], [-7], [-8], [5], [2, 0, 1]])
        self.assertEqual(answers[-1], [200] + [4, 0, 0, 1, 0] * 200)

    def test_telling_may_be_the_200th_entry(self):
        answers = ask(var(2, 0), maybe(0, 0, 1), doing([], []), fact(1, (0, IS, 0)), start(5), *[play(0)] * 199,
                      tell(0), play(0), PURSE)
        self.assertEqual(answers[-3:], [[1], [-4], [4]])

    def test_a_refused_one_leaves_the_play(self):
        self.assertEqual(ask(var(2, 0), doing([], [(0, SET, 1)]), start(3), play(1), play(20), ACTUAL, PAST)[3:],
                         [[-3], [-1], [1, 0], [0]])


class Shown(unittest.TestCase):
    def test_view_of_the_actual_state(self):
        self.assertEqual(ask(var(3, 0), var(3, 2), see(0), see(1, (0, IS, 1)), doing([], [(0, ADD, 1)]), start(), VIEW,
                             play(0), VIEW, play(0), VIEW)[6:],
                         [[3, 1, 0, 0], [1, 1], [4, 1, 1, 1, 2], [1, 1], [3, 1, 2, 0]])

    def test_known(self):
        puzzle = [var(5, 1), var(5, 2), var(5, 3), var(5, 4), maybe(1, 2, 3), maybe(3, 0, 4)]
        self.assertEqual(last(*puzzle, start(), KNOWN), [2, 0, 1, 2, 3])
        self.assertEqual(last(*puzzle, doing([(3, FROM, 4)], [(1, SET, 0)]), start(), play(0), KNOWN),
                         [4, 0, 1, 1, 0, 2, 3, 3, 4])
        self.assertEqual(last(var(2, 0), maybe(0, 0, 1), start(), KNOWN), [0])

    def test_a_value_may_be_the_same_in_most_states_and_not_known(self):
        self.assertEqual(last(var(3, 1), var(2, 0), maybe(0, 0, 2), doing([(0, IS_NOT, 2)], [(0, SET, 1)]), start(),
                              play(0), KNOWN), [2, 0, 1, 1, 0])
        self.assertEqual(last(var(3, 0), maybe(0, 0, 2), doing([], [(0, COPY, 0)]), start(), play(0), KNOWN), [0])

    def test_past_has_doings_and_facts_in_order(self):
        self.assertEqual(ask(var(2, 0), var(3, 2), maybe(0, 0, 1), see(1), doing([(1, IS, 0)], []),
                             doing([], [(1, ADD, -1)]), fact(2), fact(2, (0, IS, 0)), start(2), PAST, play(1), tell(1),
                             play(0), PAST, PURSE)[9:],
                         [[0], [1, 2], [1], [0, 1],
                          [3, 6, 0, 1, 1, 0, 1, 1, 2, 1, 1, 6, 0, 0, 0, 0, 1, 1], [0]])

    def test_purse(self):
        self.assertEqual(ask(start(0), PURSE, start(10000), PURSE), [[1], [0], [1], [10000]])

    def test_showing_changes_nothing(self):
        shown = [VIEW, BELIEF, KNOWN, ACTUAL, PAST, PURSE]
        answers = ask(var(3, 1), maybe(0, 0, 2), see(0, (0, IS, 2)), doing([], []), start(4), play(0), *shown, *shown)
        self.assertEqual(answers[6:12], answers[12:])


if __name__ == "__main__":
    unittest.main()
