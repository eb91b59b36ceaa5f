"""The calls that tell the board: begin, need, drop, needs, clash, turn."""

import itertools
import random
import unittest

from plain_plans import BEGIN, BEST, CHECK, CLASH, COUNT, DEPTH, DROP, FLAT, LARGE, LEAST, MIRROR, NEED, NEEDS, NEXT
from plain_plans import PLAN, RANK, READING, STEPS, TURN, WEIGH
from plain_plans import all_plans, all_spans, ask, ask_board, reading, text_in, turned_spans

FAR = 10 ** 18
TWELVE = [(1, b) for b in range(2, 14)]


class Begin(unittest.TestCase):
    def test_a_line_begins_with_four_layers_and_nothing_needed(self):
        self.assertEqual(ask((NEEDS,)), [[4, 0]])
        self.assertEqual(ask((COUNT,)), [[6]])

    def test_range(self):
        for layers in range(2, 25):
            self.assertEqual(ask((BEGIN, layers), (NEEDS,)), [[0], [layers, 0]])

    def test_out_of_range_changes_nothing(self):
        for layers in (-FAR, -1, 0, 1, 25, 26, FAR):
            told = ask((BEGIN, 7), (NEED, 2, 5), (BEGIN, layers), (NEEDS,))
            self.assertEqual(told[2:], [[-1], [7, 1, 2, 5]])

    def test_begin_forgets_the_needed_spans(self):
        self.assertEqual(ask((NEED, 1, 2), (BEGIN, 4), (NEEDS,))[2], [4, 0])
        told = ask((BEGIN, 24), (NEED, 20, 24), (BEGIN, 3), (NEEDS,), (NEED, 2, 3), (NEEDS,))
        self.assertEqual(told[3:], [[3, 0], [1], [3, 1, 2, 3]])


class Need(unittest.TestCase):
    def test_answers_how_many_are_needed(self):
        self.assertEqual(ask((NEED, 1, 2), (NEED, 3, 4), (NEED, 1, 4)), [[1], [2], [3]])

    def test_range_of_a_and_b(self):
        for layers in (2, 3, 4, 24):
            edges = (-FAR, -1, 0, 1, 2, layers - 1, layers, layers + 1, FAR)
            for a, b in itertools.product(edges, repeat=2):
                told = ask((BEGIN, layers), (NEED, a, b), (NEEDS,))[1:]
                if 1 <= a < b <= layers:
                    self.assertEqual(told, [[1], [layers, 1, a, b]])
                else:
                    self.assertEqual(told, [[-1], [layers, 0]])

    def test_a_span_needed_twice(self):
        self.assertEqual(ask((NEED, 2, 3), (NEED, 2, 3), (NEEDS,))[1:], [[-2], [4, 1, 2, 3]])

    def test_the_thirteenth_is_refused(self):
        told = ask_board(24, TWELVE[:11], (NEED, 1, 13), (NEED, 1, 14), (NEEDS,))
        held = [number for span in TWELVE for number in span]
        self.assertEqual(told, [[12], [-3], [24, 12] + held])

    def test_order_of_refusals(self):
        told = ask_board(24, TWELVE, (NEED, 0, 5), (NEED, 25, 26), (NEED, 1, 7), (NEED, 2, 7), (NEEDS,))
        self.assertEqual(told[:4], [[-1], [-1], [-2], [-3]])
        self.assertEqual(told[4][:2], [24, 12])

    def test_a_dropped_span_makes_room(self):
        told = ask_board(24, TWELVE, (DROP, 1, 5), (NEED, 5, 6), (NEED, 1, 5))
        self.assertEqual(told, [[11], [12], [-3]])


class Drop(unittest.TestCase):
    def test_answers_how_many_are_left(self):
        told = ask_board(4, [(1, 2), (3, 4), (1, 4)], (DROP, 3, 4), (NEEDS,), (DROP, 1, 2), (DROP, 1, 4), (NEEDS,))
        self.assertEqual(told, [[2], [4, 2, 1, 2, 1, 4], [1], [0], [4, 0]])

    def test_range_of_a_and_b(self):
        for layers in (2, 3, 4, 24):
            edges = (-FAR, -1, 0, 1, 2, layers - 1, layers, layers + 1, FAR)
            for a, b in itertools.product(edges, repeat=2):
                refusal = -2 if 1 <= a < b <= layers else -1
                self.assertEqual(ask((BEGIN, layers), (DROP, a, b))[1], [refusal])

    def test_a_span_dropped_twice(self):
        told = ask_board(5, [(2, 3), (2, 4)], (DROP, 2, 3), (DROP, 2, 3), (NEEDS,))
        self.assertEqual(told, [[1], [-2], [5, 1, 2, 4]])

    def test_a_refusal_changes_nothing(self):
        told = ask_board(5, [(2, 3)], (DROP, 3, 2), (DROP, 2, 2), (DROP, 2, 6), (DROP, 2, 4), (NEEDS,))
        self.assertEqual(told, [[-1], [-1], [-1], [-2], [5, 1, 2, 3]])

    def test_a_dropped_span_can_be_needed_again(self):
        told = ask_board(4, [(2, 3)], (DROP, 2, 3), (NEED, 2, 3), (NEEDS,))
        self.assertEqual(told, [[0], [1], [4, 1, 2, 3]])


class Needs(unittest.TestCase):
    def test_spans_stand_in_order(self):
        for spans in itertools.permutations([(1, 3), (1, 10), (2, 3), (10, 12)]):
            told = ask_board(12, spans, (NEEDS,))
            self.assertEqual(told, [[12, 4, 1, 3, 1, 10, 2, 3, 10, 12]])


def plain_clash(needed):
    for a, b in sorted(needed):
        for c, d in sorted(needed):
            if a < c and c <= b and b < d:
                return [1, a, b, c, d]
    return [0]


class Clash(unittest.TestCase):
    def test_none_is_needed_or_one(self):
        self.assertEqual(ask((CLASH,), (NEED, 1, 3), (CLASH,)), [[0], [1], [0]])

    def test_spans_that_touch_in_one_layer(self):
        self.assertEqual(ask_board(4, [(2, 3), (1, 2)], (CLASH,)), [[1, 1, 2, 2, 3]])
        self.assertEqual(ask_board(9, [(5, 9), (1, 5)], (CLASH,)), [[1, 1, 5, 5, 9]])

    def test_spans_that_overlap(self):
        self.assertEqual(ask_board(6, [(3, 6), (1, 4)], (CLASH,)), [[1, 1, 4, 3, 6]])

    def test_spans_within_one_another(self):
        for outer, inner in (((1, 6), (1, 3)), ((1, 6), (3, 6)), ((1, 6), (2, 5))):
            self.assertEqual(ask_board(6, [outer, inner], (CLASH,)), [[0]])

    def test_spans_side_by_side(self):
        self.assertEqual(ask_board(6, [(1, 2), (3, 4)], (CLASH,)), [[0]])
        self.assertEqual(ask_board(6, [(1, 3), (5, 6)], (CLASH,)), [[0]])

    def test_the_first_pair_is_told(self):
        told = ask_board(12, [(8, 10), (9, 11), (2, 6), (3, 9), (6, 7), (1, 12)], (CLASH,))
        self.assertEqual(told, [[1, 2, 6, 3, 9]])
        told = ask_board(12, [(2, 3), (2, 6), (6, 12), (6, 7), (1, 12)], (CLASH,))
        self.assertEqual(told, [[1, 2, 6, 6, 7]])

    def test_all_threes_of_spans_on_small_boards(self):
        for layers in (3, 4, 5):
            for needed in itertools.combinations(reversed(all_spans(layers)), 3):
                self.assertEqual(ask_board(layers, needed, (CLASH,)), [plain_clash(needed)])

    def test_a_dropped_span_clashes_no_more(self):
        told = ask_board(4, [(1, 2), (2, 3)], (DROP, 1, 2), (CLASH,))
        self.assertEqual(told[1], [0])


def needs_answer(layers, needed):
    return [layers, len(needed)] + [layer for span in sorted(needed) for layer in span]


class Turn(unittest.TestCase):
    def test_answers_zero(self):
        self.assertEqual(ask((TURN,), (NEEDS,)), [[0], [4, 0]])
        self.assertEqual(ask((NEED, 1, 3), (TURN,), (NEEDS,)), [[1], [0], [4, 1, 2, 4]])

    def test_each_span(self):
        for layers in (2, 3, 4, 5, 24):
            for a, b in all_spans(layers):
                told = ask_board(layers, [(a, b)], (TURN,), (NEEDS,))
                self.assertEqual(told, [[0], [layers, 1, layers + 1 - b, layers + 1 - a]])

    def test_spans_stand_in_order_behind_it(self):
        told = ask_board(12, [(1, 3), (1, 10), (2, 3), (10, 12)], (TURN,), (NEEDS,))
        self.assertEqual(told[1], [12, 4, 1, 3, 3, 12, 10, 11, 10, 12])
        draw = random.Random(18)
        for layers in (3, 4, 5, 9, 24):
            for _ in range(20):
                every = all_spans(layers)
                needed = draw.sample(every, draw.randint(0, min(len(every), 12)))
                told = ask_board(layers, needed, (TURN,), (NEEDS,), (TURN,), (NEEDS,))
                turned = needs_answer(layers, turned_spans(needed, layers))
                self.assertEqual(told, [[0], turned, [0], needs_answer(layers, needed)])

    def test_other_calls_go_by_the_turned_spans(self):
        draw = random.Random(19)
        asked = [(NEEDS,), (CLASH,), (COUNT,), (WEIGH, 5), (LEAST,), (DEPTH,), (BEST,), (FLAT,)]
        asked += [(PLAN, k) for k in range(4)]
        for layers in (3, 4, 5, 6):
            texts = [plan[3] for plan in all_plans(layers)]
            for _ in range(25):
                every = all_spans(layers)
                needed = draw.sample(every, draw.randint(1, min(len(every), 4)))
                calls = asked + [reading(number, draw.choice(texts)) for number in READING for _ in range(3)]
                turned = ask_board(layers, needed, (TURN,), *calls)[1:]
                self.assertEqual(turned, ask_board(layers, turned_spans(needed, layers), *calls), (layers, needed))

    def test_large_boards(self):
        for needed in LARGE:
            calls = [(NEEDS,), (COUNT,), (FLAT,), (PLAN, 5), (PLAN, 100)]
            told = ask_board(24, needed, (TURN,), *calls)[1:]
            self.assertEqual(told, ask_board(24, turned_spans(needed, 24), *calls))

    def test_what_a_plan_serves_its_mirror_serves_behind_it(self):
        for needed in LARGE:
            plan = text_in(ask_board(24, needed, (PLAN, 50))[0])
            mirrored = text_in(ask_board(24, needed, reading(MIRROR, plan))[0])
            told = ask_board(24, needed, (COUNT,), (TURN,), (COUNT,), reading(CHECK, mirrored), reading(RANK, mirrored))
            self.assertEqual(told[0], told[2])
            self.assertEqual(told[3][0], 1)
            self.assertGreaterEqual(told[4][0], 0)

    def test_spans_are_needed_and_dropped_as_they_stand_then(self):
        told = ask_board(5, [(1, 2), (1, 4)], (TURN,), (NEED, 4, 5), (DROP, 1, 2), (NEED, 1, 2), (DROP, 2, 5), (NEEDS,))
        self.assertEqual(told, [[0], [-2], [-2], [3], [2], [5, 2, 1, 2, 4, 5]])

    def test_begin_behind_it_forgets_the_turn(self):
        self.assertEqual(ask_board(5, [(1, 2)], (TURN,), (BEGIN, 4), (NEED, 1, 2), (NEEDS,))[3], [4, 1, 1, 2])

    def test_it_is_never_refused(self):
        for needed in ([(1, 2), (2, 3)], TWELVE):
            self.assertEqual(ask_board(24, needed, (TURN,)), [[0]])


class NothingElseChanges(unittest.TestCase):
    def compare(self, layers, needed, call):
        told = ask_board(layers, needed, call, (NEEDS,), call)
        self.assertEqual(told[1], needs_answer(layers, needed), call)
        self.assertEqual(told[0], told[2], call)

    def test_asking_leaves_the_board(self):
        calls = [(NEEDS,), (CLASH,), (COUNT,), (WEIGH, 3), (WEIGH, -1), (LEAST,), (DEPTH,), (BEST,), (FLAT,)]
        calls += [(PLAN, k) for k in (-FAR, -1, 0, 1, FAR)]
        texts = ["(1 [2 3] [4 5] 6)", "([1 2] [3 4] [5 6])", "(((1 [2 3]) 4) [5 6])", "(((([1 2] 3) 4) 5) 6)"]
        texts += ["(1 [2 3] 4)", "(1 [2 3]", "", "x", "(" * 33, "(" * 401]
        calls += [reading(number, text) for number in READING for text in texts]
        for needed in ([], [(1, 4), (2, 3)], [(1, 2), (2, 3)]):
            for call in calls:
                self.compare(6, needed, call)

    def test_refusals_leave_the_board(self):
        last = "(([1 2] 3) 4)"
        for needed, call, refusal in (
            ([(1, 2), (2, 3)], (FLAT,), -4), ([(1, 2), (2, 3)], (PLAN, 0), -5), ([(1, 3)], (PLAN, 2), -5),
            ([(3, 4)], reading(RANK, last), -7), ([(3, 4)], reading(NEXT, last), -7), ([(1, 3)], reading(NEXT, last), -5),
            ([(1, 3)], reading(STEPS, "(1 2)"), -6), ([(1, 3)], reading(CHECK, "(1 2"), -1004),
            ([(1, 3)], reading(MIRROR, " " * 401), -8),
        ):
            self.compare(4, needed, call)
            self.assertEqual(ask_board(4, needed, call), [[refusal]])


if __name__ == "__main__":
    unittest.main()
