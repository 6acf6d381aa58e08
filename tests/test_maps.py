"""Maps, levels, hints and strategies: promises 12, 13 and 19, and map."""

import unittest

from helper import (ACTUAL, ADD, BELIEF, BELOW, COPY, IS, PAST, SET, SWAP, ask, chart, doing, goal, hint, last, level,
                    maybe, play, see, start, strategy, var)

# The way out is behind one of two doors; what's behind a door is known when it has been tried.
DOORS = [var(2, 1), var(2, 0), maybe(0, 0, 1), see(1), doing([(0, IS, 0)], [(1, SET, 1)]),
         doing([(0, IS, 1)], [(1, SET, 1)]), goal((1, IS, 1)), start()]
# As before, but there's but one try, and it does the same to see whether it opens or not.
ONE_TRY = [var(3, 1), var(3, 0), maybe(0, 1, 2), doing([(1, IS, 0)], [(1, COPY, 0)]), goal((1, IS, 1)), start()]
# One counter of which nothing is seen.
COUNTER = [var(5, 0), maybe(0, 0, 3), doing([], [(0, ADD, 1)]), goal((0, IS, 4)), start()]


class Map(unittest.TestCase):
    def test_beliefs_and_doings(self):
        # {00, 10}; by door 0 {01} and {10}; by door 1 {00} and {11}.
        self.assertEqual(last(*DOORS, chart()), [5, 0, 6])

    def test_just_full_and_over(self):
        self.assertEqual(ask(*DOORS, chart(5), chart(4), chart(3), chart(2), chart(1))[-5:],
                         [[5, 0, 6], [4, 1, 3], [3, 1, 2], [2, 1, 1], [1, 1, 0]])

    def test_room_for_60(self):
        puzzle = [var(50, 0), var(11, 0), doing([], [(0, ADD, 1)])]
        more = [doing([(0, IS, 49)], [(1, ADD, 1)]), start()]
        self.assertEqual(last(*puzzle, start(), chart(60)), [50, 0, 49])
        self.assertEqual(last(*puzzle, *more, chart(60)), [60, 0, 59])
        self.assertEqual(last(*puzzle, *more, chart(59)), [59, 1, 58])

    def test_it_is_gone_through_to_its_last_one_also_when_over(self):
        # Belief 0 has no room for its second one; 0 and 1 lead to one another all the same.
        puzzle = [var(4, 0), doing([(0, IS, 0)], [(0, SET, 1)]), doing([(0, IS, 0)], [(0, SET, 2)]),
                  doing([(0, IS, 1)], [(0, SET, 0)]), doing([(0, IS, 1)], [(0, SET, 3)]), start()]
        self.assertEqual(ask(*puzzle, chart(2), chart(3), chart(4))[-3:], [[2, 1, 2], [3, 1, 3], [4, 0, 4]])

    def test_the_others_are_put_in_as_far_as_there_is_room(self):
        # A doing that may lead to three: with room for two of them these are on the map, the doing isn't.
        puzzle = [var(3, 0), var(2, 0), maybe(0, 0, 2), see(0, (1, IS, 1)), doing([(1, IS, 0)], [(1, SET, 1)]),
                  doing([(1, IS, 1), (0, IS, 1)], []), start()]
        self.assertEqual(ask(*puzzle, chart(4), chart(3), chart(2))[-3:], [[4, 0, 2], [3, 1, 1], [2, 1, 0]])

    def test_a_doing_that_can_be_done_in_none_of_the_states_is_not_tried(self):
        self.assertEqual(last(var(2, 0), maybe(0, 0, 1), doing([(0, IS, 5)], []), start(), chart()), [1, 0, 0])

    def test_a_doing_that_can_be_done_in_one_of_the_states_is_tried(self):
        self.assertEqual(last(var(2, 0), maybe(0, 0, 1), doing([(0, IS, 1)], []), start(), chart()), [3, 0, 2])

    def test_the_same_states_in_another_order_are_one_belief(self):
        puzzle = [var(2, 0), var(2, 0), maybe(0, 0, 1), maybe(1, 0, 1), doing([], [(0, SWAP, 1)]), start()]
        self.assertEqual(last(*puzzle, chart(1)), [1, 0, 1])

    def test_fewer_states_are_another_belief(self):
        self.assertEqual(last(*COUNTER, chart()), [5, 0, 4])

    def test_at_ends_it_goes_on(self):
        self.assertEqual(last(var(4, 0), doing([], [(0, ADD, 1)]), start(), chart()), [4, 0, 3])

    def test_from_the_belief_as_it_is_now(self):
        self.assertEqual(ask(*DOORS, play(0), chart(), play(1), chart())[-4:], [[0, 1], [2, 0, 2], [1, 1], [1, 0, 1]])

    def test_asking_changes_nothing(self):
        shown = [BELIEF, ACTUAL, PAST]
        asked = [chart(), chart(2), level(), hint(), strategy(), level(1)]
        answers = ask(*DOORS, *shown, *asked, *shown, *asked)
        self.assertEqual(answers[8:17], answers[17:])

    def test_the_order_of_the_first_one_found_stands(self):
        # The belief is {01, 10}: where both are the same the light is seen. Doing 0 swaps them, which is one belief
        # with the first, in another order; doing 1 makes light, and which of the two comes first tells the order.
        lamps = [var(2, 0), var(2, 1), var(2, 0), var(2, 0), maybe(0, 0, 1), maybe(1, 0, 1),
                 see(2, (0, IS, 0), (1, IS, 0)), see(2, (0, IS, 1), (1, IS, 1)), see(0, (2, IS, 1)),
                 doing([(2, IS, 0)], [(0, SWAP, 1)]), doing([(2, IS, 0)], [(2, SET, 1)]),
                 doing([(2, IS, 1), (0, IS, 0)], [(3, SET, 1)]), doing([(2, IS, 1), (0, IS, 1)], [(3, SET, 1)]),
                 goal((3, IS, 1)), start()]
        first, second = [1, 1, 2, 1], [1, 1, 3, 1]
        answers = ask(*lamps, BELIEF, strategy(), play(0), BELIEF, strategy())[-5:]
        self.assertEqual(answers[0], [2, 0, 1, 0, 0, 1, 0, 0, 0])
        self.assertEqual(answers[1], [5, 2, 2, 1, 2, 1, 2] + first + [3] + second + [4] + [1, 0, -1, 0] * 2)
        self.assertEqual(answers[3], [2, 1, 0, 0, 0, 0, 1, 0, 0])
        self.assertEqual(answers[4], [5, 2, 2, 1, 2, 1, 2] + second + [3] + first + [4] + [1, 0, -1, 0] * 2)


class Level(unittest.TestCase):
    def test_all_are_ends(self):
        self.assertEqual(last(var(2, 0), maybe(0, 0, 1), start(), level()), [0])
        self.assertEqual(last(var(3, 0), maybe(0, 0, 1), goal((0, BELOW, 2)), start(), level()), [0])

    def test_one_is_no_end(self):
        self.assertEqual(last(var(3, 0), maybe(0, 0, 2), goal((0, BELOW, 2)), start(), level()), [-1])

    def test_the_actual_state_alone_does_not_count(self):
        self.assertEqual(last(*DOORS, level()), [2])
        self.assertEqual(ask(*DOORS, play(0), level(), play(1), level())[-4:], [[0, 1], [1], [1, 1], [0]])

    def test_the_worst_of_what_may_be_noticed_counts(self):
        # One is 0 to 3; door k opens if it's k. Doors are tried in turn: the last one needn't fail.
        doors = [doing([(0, IS, number)], [(1, SET, 1)]) for number in range(4)]
        self.assertEqual(last(var(4, 0), var(2, 0), maybe(0, 0, 3), *doors, goal((1, IS, 1)), start(), level()), [4])

    def test_the_best_doing_counts(self):
        # Looking takes one, the right door another one; trying the four would take four.
        doors = [doing([(0, IS, number)], [(1, SET, 1)]) for number in range(4)]
        looking = [see(0, (2, IS, 1)), doing([], [(2, SET, 1)])]
        self.assertEqual(ask(var(4, 0), var(2, 0), maybe(0, 0, 3), var(2, 0), *doors, *looking, goal((1, IS, 1)),
                             start(), level(), hint())[-2:], [[2], [1, 4]])

    def test_no_sure_way_out(self):
        self.assertEqual(last(*ONE_TRY, level()), [-1])

    def test_a_doing_that_may_lead_to_one_without_a_level_does_not_count(self):
        # The first doing may come out in one, and may be stuck; the second one is slow and sure.
        puzzle = [var(3, 1), var(4, 0), maybe(0, 1, 2), see(1), doing([(1, IS, 0)], [(1, COPY, 0)]),
                  doing([(1, IS, 0)], [(1, SET, 3)]), doing([(1, IS, 3)], [(1, SET, 1)]), goal((1, IS, 1)), start()]
        self.assertEqual(ask(*puzzle, level(), hint())[-2:], [[2], [1, 1]])

    def test_a_doing_that_may_change_nothing_is_no_way(self):
        # It may lead to the belief itself.
        self.assertEqual(last(var(2, 0), doing([], []), goal((0, IS, 1)), start(), level()), [-1])

    def test_going_round_is_no_way(self):
        self.assertEqual(last(var(3, 0), doing([(0, IS, 0)], [(0, SET, 1)]), doing([(0, IS, 1)], [(0, SET, 0)]),
                              goal((0, IS, 2)), start(), level()), [-1])

    def test_what_is_not_noticed_can_not_be_gone_by(self):
        # Counted up without looking: those who came to the top don't go on, the others do.
        self.assertEqual(ask(*COUNTER, level(), hint())[-2:], [[4], [1, 0]])

    def test_long_ways(self):
        self.assertEqual(last(var(50, 0), doing([], [(0, ADD, 1)]), goal((0, IS, 49)), start(), level(50)), [49])

    def test_over(self):
        self.assertEqual(ask(*DOORS, level(5), level(4), level(1))[-3:], [[2], [-6], [-6]])

    def test_over_at_an_end(self):
        self.assertEqual(ask(var(2, 0), doing([], [(0, SET, 1)]), start(), level(1), level(2))[-2:], [[-6], [0]])


class Hint(unittest.TestCase):
    def test_the_first_doing(self):
        self.assertEqual(ask(*DOORS, hint(), play(0), hint(), play(1), hint())[-5:],
                         [[1, 0], [0, 1], [1, 1], [1, 1], [0]])

    def test_the_first_one_that_is_as_short_as_can_be(self):
        puzzle = [var(9, 0), doing([], [(0, ADD, 1)]), doing([], [(0, ADD, 2)]), doing([], [(0, ADD, 4)]),
                  doing([], [(0, ADD, 4)])]
        self.assertEqual(last(*puzzle, goal((0, IS, 8)), start(), hint()), [1, 2])
        self.assertEqual(last(*puzzle, goal((0, IS, 6)), start(), hint()), [1, 1])
        self.assertEqual(last(*puzzle, goal((0, IS, 5)), start(), hint()), [1, 0])

    def test_none_at_level_0_or_without_a_sure_way(self):
        self.assertEqual(last(var(2, 0), doing([], []), start(), hint()), [0])
        self.assertEqual(last(*ONE_TRY, hint()), [0])

    def test_over(self):
        self.assertEqual(ask(*DOORS, hint(5), hint(4))[-2:], [[1, 0], [-6]])


class Strategy(unittest.TestCase):
    def test_doors(self):
        self.assertEqual(last(*DOORS, strategy()),
                         [4, 2, 2, 0, 2, 1, 2, 1, 0, -1, 0, 1, 1, 1, 1, 3, 1, 0, -1, 0])

    def test_level_0(self):
        self.assertEqual(last(var(2, 0), maybe(0, 0, 1), doing([], []), start(), strategy()), [1, 2, 0, -1, 0])

    def test_places_are_those_of_the_strategy_not_of_the_map(self):
        # The map finds 1 and 2 by the first doing, which isn't the hint.
        puzzle = [var(9, 0), doing([], [(0, ADD, 1)]), doing([], [(0, ADD, 4)]), goal((0, IS, 8)), start()]
        self.assertEqual(last(*puzzle, strategy()), [3, 1, 2, 1, 1, 1, 1, 1, 1, 1, 2, 1, 0, -1, 0])

    def test_one_belief_for_several_that_lead_to_it(self):
        # Whatever the light shows, it's switched off, and then it's one belief.
        puzzle = [var(3, 0), maybe(0, 0, 2), var(2, 0), see(0, (1, IS, 1)), doing([(1, IS, 0)], [(1, SET, 1)]),
                  doing([(1, IS, 1)], [(0, SET, 0)]), goal((1, IS, 1), (0, IS, 0)), start()]
        self.assertEqual(last(*puzzle, strategy()),
                         [4, 3, 2, 0, 3, 1, 2, 3, 1, 0, -1, 0, 1, 1, 1, 1, 1, 1, 1, 1, 1, 1])

    def test_a_place_for_each_row_that_may_be_noticed(self):
        # 0 becomes 1, and 1 stays: two rows, and both times it's known to be 1.
        puzzle = [var(2, 0), maybe(0, 0, 1), doing([(0, IS, 0)], [(0, SET, 1)]), goal((0, IS, 1)), start()]
        self.assertEqual(last(*puzzle, strategy()), [2, 2, 1, 0, 2, 1, 1, 1, 0, -1, 0])

    def test_rows_come_in_the_order_of_the_states(self):
        # The first state fails: that belief comes first.
        puzzle = [var(2, 0), var(2, 0), maybe(0, 0, 1), doing([(0, IS, 1)], [(1, SET, 1)]),
                  doing([(0, IS, 0)], [(1, SET, 1), (0, SET, 1)]), goal((1, IS, 1)), start()]
        self.assertEqual(last(*puzzle, strategy()), [3, 2, 2, 0, 2, 1, 2, 1, 1, 1, 1, 2, 1, 0, -1, 0])

    def test_no_sure_way_out(self):
        self.assertEqual(last(*ONE_TRY, strategy()), [-4])

    def test_over_comes_before_no_sure_way_out(self):
        self.assertEqual(ask(*ONE_TRY, strategy(1), strategy(2))[-2:], [[-6], [-4]])
        self.assertEqual(last(*DOORS, strategy(4)), [-6])


if __name__ == "__main__":
    unittest.main()
