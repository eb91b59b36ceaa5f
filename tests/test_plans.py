"""The calls that ask of all plans: count, weigh, least, depth, best."""

import itertools
import random
import unittest

from plain_plans import BEST, COUNT, DEPTH, LARGE, LEAST, NEEDS, WEIGH
from plain_plans import all_plans, all_spans, ask, ask_board, bytes_answer, plans_that_serve, slow_fewest, slow_value
from plain_plans import text_in

FAR = 10 ** 18
DIVISOR = 1000000007
ASKED = ((COUNT,), (LEAST,), (DEPTH,), (BEST,), (WEIGH, 0), (WEIGH, 1), (WEIGH, 2), (WEIGH, 1000000))


def plain_answers(layers, needed):
    """What the listing of all plans answers to ASKED."""
    plans = plans_that_serve(layers, needed)
    weighed = [[sum(w ** plan[1] for plan in plans) % DIVISOR] for w in (0, 1, 2, 1000000)]
    if not plans:
        return [[0], [-4], [-4], [-4]] + weighed
    fewest = min(plan[1] for plan in plans)
    first = [plan for plan in plans if plan[1] == fewest][0]
    return [[len(plans)], [fewest], [min(plan[2] for plan in plans)], bytes_answer(first[3])] + weighed


class Listing(unittest.TestCase):
    """The plain listing itself, held against plans told by hand."""

    def test_small_boards(self):
        self.assertEqual([plan[3] for plan in all_plans(2)], ["[1 2]"])
        self.assertEqual([plan[3] for plan in all_plans(3)], ["(1 [2 3])", "([1 2] 3)"])
        by_hand = ["(1 [2 3] 4)", "(1 (2 [3 4]))", "(1 ([2 3] 4))", "([1 2] [3 4])", "((1 [2 3]) 4)", "(([1 2] 3) 4)"]
        self.assertEqual([plan[3] for plan in all_plans(4)], by_hand)

    def test_counts(self):
        self.assertEqual([len(all_plans(layers)) for layers in range(2, 9)], [1, 2, 6, 20, 72, 272, 1064])


class AgainstTheListing(unittest.TestCase):
    def check(self, layers, needed):
        self.assertEqual(ask_board(layers, needed, *ASKED), plain_answers(layers, needed), (layers, needed))

    def test_nothing_needed(self):
        for layers in range(2, 10):
            self.check(layers, [])

    def test_all_needed_spans_on_boards_of_two_to_four_layers(self):
        for layers in (2, 3, 4):
            spans = all_spans(layers)
            for size in range(len(spans) + 1):
                for needed in itertools.combinations(spans, size):
                    self.check(layers, needed)

    def test_up_to_three_needed_spans_on_five_layers(self):
        for size in (1, 2, 3):
            for needed in itertools.combinations(all_spans(5), size):
                self.check(5, needed)

    def test_up_to_two_needed_spans_on_six_and_seven_layers(self):
        for layers in (6, 7):
            for size in (1, 2):
                for needed in itertools.combinations(all_spans(layers), size):
                    self.check(layers, needed)

    def test_spans_of_one_plan_needed_together(self):
        draw = random.Random(8)
        for layers in (6, 7, 8, 9):
            for plan in draw.sample(all_plans(layers), 40):
                spans = sorted(plan[0])
                self.check(layers, draw.sample(spans, draw.randint(1, len(spans))))

    def test_a_plan_is_the_best_one_for_its_own_spans(self):
        for layers in (2, 3, 4, 5, 6):
            for plan in all_plans(layers):
                told = ask_board(layers, sorted(plan[0]), (LEAST,), (DEPTH,), (BEST,))
                self.assertEqual(told, [[plan[1]], [plan[2]], bytes_answer(plan[3])])


class ByHand(unittest.TestCase):
    def test_two_layers_are_a_core_alone(self):
        for needed in ([], [(1, 2)]):
            told = ask_board(2, needed, (COUNT,), (LEAST,), (DEPTH,), (BEST,))
            self.assertEqual(told[:3], [[1], [0], [0]])
            self.assertEqual(text_in(told[3]), "[1 2]")

    def test_three_layers(self):
        told = ask_board(3, [], (COUNT,), (LEAST,), (DEPTH,), (BEST,))
        self.assertEqual(told[:3], [[2], [1], [1]])
        self.assertEqual(text_in(told[3]), "(1 [2 3])")
        told = ask_board(3, [(1, 2)], (COUNT,), (BEST,))
        self.assertEqual(told[0], [1])
        self.assertEqual(text_in(told[1]), "([1 2] 3)")

    def test_four_layers(self):
        self.assertEqual(ask((COUNT,), (LEAST,), (DEPTH,)), [[6], [1], [1]])
        self.assertEqual(text_in(ask((BEST,))[0]), "(1 [2 3] 4)")
        told = ask_board(4, [(1, 3)], (COUNT,), (LEAST,), (DEPTH,), (BEST,))
        self.assertEqual(told[:3], [[2], [2], [2]])
        self.assertEqual(text_in(told[3]), "((1 [2 3]) 4)")

    def test_the_whole_board_needed_changes_no_plan(self):
        for layers in (2, 3, 4, 5, 24):
            self.assertEqual(ask_board(layers, [], *ASKED), ask_board(layers, [(1, layers)], *ASKED))

    def test_a_press_within_a_press(self):
        told = ask_board(7, [(3, 5)], (LEAST,), (DEPTH,), (BEST,))
        self.assertEqual(told[:2], [[2], [2]])
        self.assertEqual(text_in(told[2]), "([1 2] (3 [4 5]) [6 7])")

    def test_a_foil_never_stands_in_the_middle(self):
        told = ask_board(5, [(1, 2), (4, 5)], (COUNT,), (LEAST,), (DEPTH,), (BEST,))
        self.assertEqual(told[:3], [[2], [2], [2]])
        self.assertEqual(text_in(told[3]), "([1 2] (3 [4 5]))")

    def test_numbers_of_two_digits_in_a_text(self):
        told = ask_board(12, [(9, 10), (11, 12)], (BEST,))
        self.assertEqual(text_in(told[0]), "([1 2] [3 4] [5 6] [7 8] [9 10] [11 12])")


class Weigh(unittest.TestCase):
    def test_range(self):
        for w in (-FAR, -1, 1000001, FAR):
            told = ask_board(6, [(2, 3)], (WEIGH, w), (NEEDS,))
            self.assertEqual(told, [[-1], [6, 1, 2, 3]])
        for w in (0, 1, 1000000):
            self.assertEqual(ask((WEIGH, w))[0], [(2 * w + 4 * w * w) % DIVISOR])

    def test_zero_to_the_power_zero(self):
        self.assertEqual(ask_board(2, [], (WEIGH, 0)), [[1]])
        self.assertEqual(ask_board(2, [(1, 2)], (WEIGH, 0)), [[1]])
        for layers in (3, 4, 24):
            self.assertEqual(ask_board(layers, [], (WEIGH, 0)), [[0]])

    def test_the_range_is_looked_at_before_the_plans(self):
        told = ask_board(4, [(1, 2), (2, 3)], (WEIGH, -1), (WEIGH, 1000001), (WEIGH, 0), (WEIGH, 5))
        self.assertEqual(told, [[-1], [-1], [0], [0]])

    def test_one_weighs_each_plan_once(self):
        for layers in range(2, 25):
            told = ask_board(layers, [], (COUNT,), (WEIGH, 1))
            self.assertEqual(told[1], [told[0][0] % DIVISOR])


class NoPlanServesAll(unittest.TestCase):
    def test_spans_that_clash(self):
        for needed in ([(1, 2), (2, 3)], [(1, 3), (2, 4)], [(1, 3), (3, 4)], [(1, 4), (1, 2), (2, 4)]):
            told = ask_board(4, needed, (COUNT,), (WEIGH, 7), (LEAST,), (DEPTH,), (BEST,), (NEEDS,))
            self.assertEqual(told[:5], [[0], [0], [-4], [-4], [-4]])
            self.assertEqual(told[5][:2], [4, len(needed)])

    def test_large_board(self):
        told = ask_board(24, [(1, 23), (2, 24)], (COUNT,), (WEIGH, 7), (LEAST,), (DEPTH,), (BEST,))
        self.assertEqual(told, [[0], [0], [-4], [-4], [-4]])

    def test_the_clash_lies_deep_within(self):
        needed = [(1, 24), (2, 20), (3, 18), (9, 11), (11, 12)]
        told = ask_board(24, needed, (COUNT,), (WEIGH, 7), (LEAST,), (DEPTH,), (BEST,))
        self.assertEqual(told, [[0], [0], [-4], [-4], [-4]])


class LargeBoards(unittest.TestCase):
    def test_count_and_weigh(self):
        for needed in LARGE:
            told = ask_board(24, needed, (COUNT,), (WEIGH, 0), (WEIGH, 999983), (WEIGH, 1000000))
            self.assertEqual(told[0], [slow_value(24, needed, 1)])
            self.assertEqual(told[1], [0])
            self.assertEqual(told[2], [slow_value(24, needed, 999983) % DIVISOR])
            self.assertEqual(told[3], [slow_value(24, needed, 1000000) % DIVISOR])

    def test_least_depth_and_best(self):
        for needed in LARGE:
            told = ask_board(24, needed, (LEAST,), (DEPTH,), (BEST,))
            fewest, shallowest = told[0][0], told[1][0]
            self.assertEqual(fewest, slow_fewest(24, needed))
            self.assertGreater(slow_value(24, needed, 1, shallowest), 0)
            self.assertEqual(slow_value(24, needed, 1, shallowest - 1), 0)
            self.assertEqual(text_in(told[2]).count("("), fewest)

    def test_every_board_with_nothing_needed(self):
        for layers in range(2, 25):
            told = ask_board(layers, [], (COUNT,), (LEAST,), (DEPTH,))
            pressed = 0 if layers == 2 else 1
            self.assertEqual(told, [[slow_value(layers, (), 1)], [pressed], [pressed]])

    def test_nested_spans_are_presses_one_within_another(self):
        told = ask_board(24, LARGE[1], (COUNT,), (LEAST,), (DEPTH,), (BEST,))
        text = "[12 13]"
        for k in range(2, 13):
            text = "(%d %s %d)" % (13 - k, text, 12 + k)
        # Two foils round a press can be added at once, or either one first: three ways, eleven times.
        self.assertEqual(told, [[3 ** 11], [11], [11], bytes_answer(text)])

    def test_cores_side_by_side(self):
        told = ask_board(24, LARGE[0], (LEAST,), (DEPTH,), (BEST,))
        text = "(" + " ".join("[%d %d]" % span for span in LARGE[0]) + ")"
        self.assertEqual(told, [[1], [1], bytes_answer(text)])

    def test_foils_added_one_by_one(self):
        told = ask_board(24, LARGE[2], (LEAST,), (DEPTH,), (BEST,))
        text = "(1 [2 3] [4 5] [6 7] [8 9] [10 11] [12 13])"
        for b in range(14, 25):
            text = "(%s %d)" % (text, b)
        self.assertEqual(told, [[12], [12], bytes_answer(text)])

    def test_a_hundred_calls(self):
        for needed in LARGE:
            calls = [(COUNT,), (WEIGH, 1000000), (LEAST,), (DEPTH,), (BEST,)]
            many = [calls[k % 5] for k in range(100 - 1 - len(needed))]
            told = ask_board(24, needed, *many)
            self.assertEqual(told, [told[k % 5] for k in range(len(many))])


if __name__ == "__main__":
    unittest.main()
