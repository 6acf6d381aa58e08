"""Facts: promises 15, 16 and 17."""

import unittest

from helper import (ACTUAL, ADD, BELIEF, BELOW, COPY, FROM, IS, IS_NOT, PAST, PURSE, SET, SWAP, ask, bar, chart, doing,
                    fact, goal, last, lead, maybe, play, start, tell, var)

WHEEL = [var(6, 2), maybe(0, 1, 4)]
# Two switches, each good (1) or bad (2); the one that's tried settles how it ends.
SWITCHES = [var(3, 1), var(3, 2), var(3, 0), maybe(0, 1, 2), maybe(1, 1, 2),
            doing([(2, IS, 0)], [(2, COPY, 0)]), doing([(2, IS, 0)], [(2, COPY, 1)]), goal((2, IS, 1))]


class Bar(unittest.TestCase):
    def bars(self, purse, *facts):
        answers = ask(*WHEEL, *facts, start(purse), *[bar(number) for number in range(len(facts))])
        return [answer[0] for answer in answers[-len(facts):]]

    def test_each_bar(self):
        self.assertEqual(self.bars(5, fact(5, (0, IS, 2)), fact(5, (0, IS, 3)), fact(5, (0, BELOW, 5)),
                                   fact(6, (0, IS, 2))), [0, 1, 2, 3])

    def test_the_first_that_is_so(self):
        self.assertEqual(self.bars(5, fact(6, (0, IS, 3)), fact(6, (0, FROM, 1)), fact(6, (0, FROM, 9))), [1, 2, 1])

    def test_no_news_hangs_on_the_belief(self):
        self.assertEqual(self.bars(0, fact(0, (0, FROM, 1)), fact(0, (0, FROM, 2)), fact(0, (0, IS_NOT, 5)),
                                   fact(0, (0, IS_NOT, 4)), fact(0)), [2, 0, 2, 0, 2])

    def test_all_needs_have_to_hold(self):
        self.assertEqual(self.bars(0, fact(0, (0, FROM, 2), (0, BELOW, 3)), fact(0, (0, FROM, 2), (0, FROM, 3)),
                                   fact(0, (0, FROM, 3), (0, FROM, 2))), [0, 1, 1])

    def test_it_changes_nothing(self):
        self.assertEqual(ask(*WHEEL, fact(1, (0, IS, 2)), start(3), bar(0), bar(0), BELIEF, PURSE, PAST)[-5:],
                         [[0], [0], [4, 1, 2, 3, 4], [3], [0]])

    def test_it_hangs_on_the_state_as_it_is_now(self):
        puzzle = WHEEL + [fact(0, (0, IS, 3)), doing([], [(0, ADD, 1)])]
        self.assertEqual(ask(*puzzle, start(), bar(0), play(0), bar(0), BELIEF)[-4:],
                         [[1], [1, 4], [0], [4, 2, 3, 4, 5]])

    def test_no_such_fact(self):
        self.assertEqual(ask(start(), bar(0), fact(0), start(), bar(0), bar(1), bar(11), bar(12)),
                         [[1], [-3], [0], [1], [2], [-3], [-3], [-1]])


class Tell(unittest.TestCase):
    def test_the_belief_keeps_what_holds(self):
        self.assertEqual(ask(*WHEEL, fact(4, (0, BELOW, 3)), fact(3, (0, IS_NOT, 1)), start(9), tell(0), BELIEF, PURSE,
                             PAST, tell(1), BELIEF, PURSE, PAST, ACTUAL)[5:],
                         [[2], [2, 1, 2], [5], [1, 2, 1, 0], [1], [1, 2], [2], [2, 2, 1, 0, 2, 1, 1], [1, 2]])

    def test_the_order_stays(self):
        puzzle = [var(4, 3), var(4, 0), maybe(0, 2, 3), maybe(1, 0, 1), doing([], [(0, SWAP, 1)]),
                  fact(0, (0, BELOW, 1))]
        self.assertEqual(ask(*puzzle, start(), play(0), BELIEF, tell(0), BELIEF)[-4:],
                         [[1, 4], [4, 0, 2, 1, 2, 0, 3, 1, 3], [2], [2, 0, 2, 0, 3]])

    def test_the_whole_purse_may_be_spent(self):
        self.assertEqual(ask(*WHEEL, fact(9, (0, IS, 2)), start(9), tell(0), PURSE)[-2:], [[1], [0]])

    def test_refusals(self):
        facts = [fact(6, (0, IS, 3)), fact(6, (0, FROM, 1)), fact(6, (0, IS, 2)), fact(0, (0, IS, 3)),
                 fact(0, (0, FROM, 1))]
        tells = [tell(number) for number in range(7)]
        self.assertEqual(ask(*WHEEL, *facts, start(5), *tells, BELIEF, PURSE, PAST)[-10:],
                         [[-5], [-7], [-8], [-5], [-7], [-3], [-3], [4, 1, 2, 3, 4], [5], [0]])

    def test_what_has_been_told_is_no_news(self):
        self.assertEqual(ask(*WHEEL, fact(1, (0, IS, 2)), start(5), tell(0), tell(0), bar(0), PURSE)[-4:],
                         [[1], [-7], [2], [4]])

    def test_the_purse_is_emptied_by_telling(self):
        self.assertEqual(ask(*WHEEL, fact(3, (0, BELOW, 4)), fact(3, (0, BELOW, 3)), start(5), tell(0), bar(1), tell(1),
                             PURSE)[-4:], [[3], [3], [-8], [2]])


class Lead(unittest.TestCase):
    def led(self, facts, purse=100, most=60):
        return last(*SWITCHES, *facts, start(purse), lead(most))

    def test_with_a_level_no_fact_is_looked_for(self):
        self.assertEqual(last(*WHEEL, fact(0, (0, IS, 2)), start(), lead()), [2, 0])
        self.assertEqual(last(var(2, 0), doing([], [(0, SET, 1)]), goal((0, IS, 1)), start(), lead()), [2, 1])

    def test_without_facts(self):
        self.assertEqual(self.led([]), [0])

    def test_the_one_that_leads_on(self):
        # That the second is bad helps nobody.
        self.assertEqual(self.led([fact(1, (1, IS, 2)), fact(9, (0, IS, 1))]), [1, 1, 2, 9, 1])

    def test_the_one_that_leaves_most_states(self):
        self.assertEqual(self.led([fact(1, (0, IS, 1), (1, IS, 2)), fact(9, (0, IS, 1))]), [1, 1, 2, 9, 1])
        self.assertEqual(self.led([fact(9, (0, IS, 1)), fact(1, (0, IS, 1), (1, IS, 2))]), [1, 0, 2, 9, 1])

    def test_of_these_the_one_with_the_least_price(self):
        self.assertEqual(self.led([fact(9, (0, IS, 1)), fact(3, (0, BELOW, 2)), fact(4, (0, IS_NOT, 2))]),
                         [1, 1, 2, 3, 1])

    def test_of_these_the_first_told(self):
        self.assertEqual(self.led([fact(9, (0, IS, 1)), fact(3, (0, BELOW, 2)), fact(3, (0, IS_NOT, 2))]),
                         [1, 1, 2, 3, 1])

    def test_a_lesser_level_makes_it_no_weaker(self):
        # The second switch has to be reached first, so that it takes two.
        puzzle = [var(3, 1), var(3, 1), var(3, 0), var(2, 0), maybe(0, 1, 2), maybe(1, 1, 2),
                  doing([(2, IS, 0)], [(2, COPY, 0)]), doing([], [(3, SET, 1)]),
                  doing([(2, IS, 0), (3, IS, 1)], [(2, COPY, 1)]), goal((2, IS, 1))]
        self.assertEqual(last(*puzzle, fact(6, (0, IS, 1)), fact(5, (1, IS, 1)), start(6), lead()), [1, 1, 2, 5, 2])
        self.assertEqual(last(*puzzle, fact(6, (0, IS, 1)), fact(7, (1, IS, 1)), start(9), lead()), [1, 0, 2, 6, 1])

    def test_a_weaker_one_that_does_not_lead_on(self):
        self.assertEqual(self.led([fact(0, (1, IS, 2)), fact(9, (0, IS, 1), (1, IS, 2))]), [1, 1, 1, 9, 1])
        self.assertEqual(self.led([fact(0, (1, IS, 2))]), [0])

    def test_only_facts_that_can_be_told(self):
        # The first one isn't so, the second one is no news, the third one is too dear.
        facts = [fact(0, (1, IS, 1)), fact(0, (0, FROM, 1)), fact(8, (0, IS, 1))]
        self.assertEqual(self.led(facts, purse=7), [0])
        self.assertEqual(self.led(facts, purse=8), [1, 2, 2, 8, 1])

    def test_a_dear_weak_one_gives_way_to_one_that_can_be_paid(self):
        self.assertEqual(self.led([fact(8, (0, IS, 1)), fact(2, (0, IS, 1), (1, IS, 2))], purse=7), [1, 1, 1, 2, 1])

    def test_after_the_fact_is_told_there_is_a_level(self):
        self.assertEqual(ask(*SWITCHES, fact(2, (0, IS, 1)), start(5), lead(), tell(0), lead(), play(0), lead())[-5:],
                         [[1, 0, 2, 2, 1], [2], [2, 1], [1, 2], [2, 0]])

    def test_over(self):
        self.assertEqual(ask(*SWITCHES, fact(1, (0, IS, 1)), start(5), chart(), lead(3), lead(2))[-3:],
                         [[3, 0, 2], [1, 0, 2, 1, 1], [-6]])

    def test_not_if_the_map_from_what_it_leaves_is_over(self):
        # Swapped, all eight states are the same belief; of those with a first 1 there are three beliefs.
        puzzle = [var(2, 1), var(2, 0), var(2, 0), maybe(0, 0, 1), maybe(1, 0, 1), maybe(2, 0, 1),
                  doing([], [(0, SWAP, 1)]), doing([], [(1, SWAP, 2)]), goal((0, IS, 1))]
        weak = fact(7, (0, IS, 1))
        self.assertEqual(ask(*puzzle, weak, start(9), lead(1), lead(2), lead(3))[-3:], [[0], [0], [1, 0, 4, 7, 0]])
        # A stronger one may have a smaller map, or none that is smaller.
        self.assertEqual(ask(*puzzle, weak, fact(2, (0, IS, 1), (1, IS, 0), (2, IS, 0)), start(9), lead(2),
                             lead(3))[-2:], [[0], [1, 0, 4, 7, 0]])

    def test_it_changes_nothing(self):
        shown = [BELIEF, ACTUAL, PURSE, PAST]
        answers = ask(*SWITCHES, fact(2, (0, IS, 1)), start(5), *shown, lead(), *shown, lead())
        self.assertEqual(answers[10:15], answers[15:])


if __name__ == "__main__":
    unittest.main()
