"""The calls that tell of one plan: check, spans, mirror, steps."""

import random
import unittest

from plain_plans import CHECK, LARGE, MIRROR, PLAN, SPANS, STEPS
from plain_plans import all_plans, all_spans, ask, ask_board, ask_many, bytes_answer, cores, depth, parse, presses
from plain_plans import reading, slow_value, spans, text, text_in, turned_over, work

TOLD = (CHECK, SPANS, MIRROR, STEPS)


def plain_answers(layers, needed, plan):
    """What the part itself tells to each of the calls."""
    told = sorted(spans(plan))
    done = work(plan)
    return [
        [1 if set(needed) <= spans(plan) else 0, presses(plan), depth(plan), cores(plan)],
        [len(told)] + [layer for span in told for layer in span],
        bytes_answer(text(turned_over(plan, layers))),
        [len(done)] + [number for kind, a, b in done for number in (kind, a, b, 1 if (a, b) in needed else 0)],
    ]


class OnePlan(unittest.TestCase):
    def compare(self, layers, needed, plans):
        calls = [reading(number, text(plan)) for plan in plans for number in TOLD]
        told = ask_many(layers, needed, calls)
        for k, plan in enumerate(plans):
            self.assertEqual(told[4 * k:4 * k + 4], plain_answers(layers, needed, plan), (layers, needed, text(plan)))


class AgainstTheListing(OnePlan):
    def test_nothing_needed(self):
        for layers in range(2, 8):
            self.compare(layers, [], [plan[4] for plan in all_plans(layers)])

    def test_one_span_needed(self):
        for layers in (2, 3, 4, 5, 6):
            for span in all_spans(layers):
                self.compare(layers, [span], [plan[4] for plan in all_plans(layers)])

    def test_several_spans_needed(self):
        draw = random.Random(14)
        for layers in (3, 4, 5, 6, 7, 8):
            for _ in range(15):
                every = all_spans(layers)
                needed = draw.sample(every, draw.randint(2, min(len(every), 12)))
                plans = [plan[4] for plan in all_plans(layers)]
                self.compare(layers, needed, draw.sample(plans, min(len(plans), 15)))

    def test_spans_of_the_plan_itself_needed(self):
        draw = random.Random(15)
        for layers in (3, 4, 5, 6, 7, 8):
            for plan in draw.sample(all_plans(layers), min(len(all_plans(layers)), 20)):
                every = sorted(plan[0])
                self.compare(layers, draw.sample(every, draw.randint(1, len(every))), [plan[4]])


class LargeBoards(OnePlan):
    def test_plans_of_24_layers(self):
        draw = random.Random(16)
        for needed in LARGE:
            count = slow_value(24, needed, 1)
            numbers = [0, count - 1] + [draw.randrange(count) for _ in range(10)]
            plans = [parse(text_in(told)) for told in ask_board(24, needed, *[(PLAN, k) for k in numbers])]
            self.compare(24, needed, plans)
            self.compare(24, LARGE[1], plans)
            self.compare(24, (), plans)

    def test_mirror_twice_is_as_before(self):
        draw = random.Random(17)
        count = slow_value(24, (), 1)
        for _ in range(20):
            plan = text_in(ask_board(24, [], (PLAN, draw.randrange(count)))[0])
            once = text_in(ask_board(24, [], reading(MIRROR, plan))[0])
            self.assertEqual(text_in(ask_board(24, [], reading(MIRROR, once))[0]), plan)

    def test_a_plan_with_presses_22_deep(self):
        plan = "[1 2]"
        for layer in range(3, 25):
            plan = "(%s %d)" % (plan, layer)
        told = ask_board(24, [], *[reading(number, plan) for number in TOLD])
        self.assertEqual(told[0], [1, 22, 22, 1])
        self.assertEqual(told[1], [23] + [layer for b in range(2, 25) for layer in (1, b)])
        turned = "[23 24]"
        for layer in range(22, 0, -1):
            turned = "(%d %s)" % (layer, turned)
        self.assertEqual(told[2], bytes_answer(turned))
        self.assertEqual(told[3], [23, 0, 1, 2, 0] + [number for b in range(3, 25) for number in (1, 1, b, 0)])

    def test_a_hundred_calls(self):
        count = slow_value(24, (), 1)
        plan = text_in(ask_board(24, [], (PLAN, count // 3))[0])
        for number in TOLD:
            told = ask_board(24, [], *[reading(number, plan)] * 99)
            self.assertEqual(told, [told[0]] * 99)


class ByHand(unittest.TestCase):
    PLAN = "(1 [2 3] (4 [5 6]))"

    def test_check(self):
        for needed, served in (
            ([], 1), ([(1, 6)], 1), ([(2, 3)], 1), ([(4, 6)], 1), ([(5, 6)], 1), ([(2, 3), (4, 6), (1, 6)], 1),
            ([(1, 2)], 0), ([(4, 5)], 0), ([(3, 4)], 0), ([(1, 3)], 0), ([(2, 3), (2, 6)], 0), ([(1, 2), (2, 3)], 0),
        ):
            self.assertEqual(ask_board(6, needed, reading(CHECK, self.PLAN)), [[served, 2, 2, 2]])

    def test_check_of_a_core(self):
        self.assertEqual(ask_board(2, [], reading(CHECK, "[1 2]")), [[1, 0, 0, 1]])

    def test_spans(self):
        told = ask_board(6, [], reading(SPANS, self.PLAN))
        self.assertEqual(told, [[4, 1, 6, 2, 3, 4, 6, 5, 6]])
        self.assertEqual(ask_board(2, [(1, 2)], reading(SPANS, "[1 2]")), [[1, 1, 2]])
        self.assertEqual(ask(reading(SPANS, "(([1 2] 3) 4)")), [[3, 1, 2, 1, 3, 1, 4]])

    def test_mirror(self):
        for layers, plan, turned in (
            (6, self.PLAN, "(([1 2] 3) [4 5] 6)"), (2, "[1 2]", "[1 2]"), (4, "(1 [2 3] 4)", "(1 [2 3] 4)"),
            (4, "((1 [2 3]) 4)", "(1 ([2 3] 4))"), (3, "(1 [2 3])", "([1 2] 3)"),
            (12, "(1 [2 3] [4 5] [6 7] [8 9] [10 11] 12)", "(1 [2 3] [4 5] [6 7] [8 9] [10 11] 12)"),
            (11, "([1 2] [3 4] [5 6] [7 8] (9 [10 11]))", "(([1 2] 3) [4 5] [6 7] [8 9] [10 11])"),
        ):
            self.assertEqual(ask_board(layers, [], reading(MIRROR, plan)), [bytes_answer(turned)])

    def test_steps(self):
        told = ask_board(6, [(1, 6), (4, 6), (2, 4)], reading(STEPS, self.PLAN))
        self.assertEqual(told, [[4, 0, 2, 3, 0, 0, 5, 6, 0, 1, 4, 6, 1, 1, 1, 6, 1]])
        self.assertEqual(ask_board(2, [], reading(STEPS, "[1 2]")), [[1, 0, 1, 2, 0]])
        self.assertEqual(ask_board(2, [(1, 2)], reading(STEPS, "[1 2]")), [[1, 0, 1, 2, 1]])
        told = ask_board(7, [], reading(STEPS, "((1 [2 3]) ([4 5] [6 7]))"))
        self.assertEqual(told, [[6, 0, 2, 3, 0, 1, 1, 3, 0, 0, 4, 5, 0, 0, 6, 7, 0, 1, 4, 7, 0, 1, 1, 7, 0]])

    def test_a_plan_that_does_not_serve_all_is_told_all_the_same(self):
        for needed in ([(2, 3)], [(1, 2), (2, 3)], [(1, 3), (2, 4)]):
            told = ask_board(4, needed, *[reading(number, "([1 2] [3 4])") for number in TOLD])
            core = 1 if (1, 2) in needed else 0
            self.assertEqual(told, [
                [0, 1, 1, 2], [3, 1, 2, 1, 4, 3, 4], bytes_answer("([1 2] [3 4])"),
                [3, 0, 1, 2, core, 0, 3, 4, 0, 1, 1, 4, 0],
            ])


if __name__ == "__main__":
    unittest.main()
