"""The calls that go by the order of plans: flat, plan, rank, next."""

import itertools
import random
import unittest

from plain_plans import BEST, CHECK, COUNT, DEPTH, FLAT, LARGE, LEAST, NEEDS, NEXT, PLAN, RANK
from plain_plans import all_plans, all_spans, ask, ask_board, ask_many, bytes_answer, depth, order, parse
from plain_plans import plans_that_serve, reading, slow_flat, slow_value, spans, text, text_in

FAR = 10 ** 18


def small_boards():
    """Boards and needed spans for which all plans can be listed, those that no plan serves among them."""
    for layers in (2, 3, 4):
        every = all_spans(layers)
        for size in range(len(every) + 1):
            for needed in itertools.combinations(every, size):
                yield layers, needed
    for layers, most in ((5, 2), (6, 1), (7, 1)):
        for size in range(most + 1):
            for needed in itertools.combinations(all_spans(layers), size):
                yield layers, needed
    draw = random.Random(3)
    for layers in (6, 7, 8, 9):
        for plan in draw.sample(all_plans(layers), 30):
            every = sorted(plan[0])
            yield layers, tuple(draw.sample(every, draw.randint(2, len(every))))


BOARDS = [(layers, needed, plans_that_serve(layers, needed)) for layers, needed in small_boards()]


class AgainstTheListing(unittest.TestCase):
    def test_the_boards_are_of_both_kinds(self):
        self.assertGreater(sum(not plans for _, _, plans in BOARDS), 50)
        self.assertGreater(sum(len(plans) > 1 for _, _, plans in BOARDS), 150)

    def test_flat(self):
        for layers, needed, plans in BOARDS:
            wanted = [-4]
            if plans:
                # min takes the first of several that are least.
                wanted = bytes_answer(min(plans, key=lambda plan: plan[2])[3])
            self.assertEqual(ask_board(layers, needed, (FLAT,)), [wanted], (layers, needed))

    def test_plan_at_each_number(self):
        for layers, needed, plans in BOARDS:
            numbers = [-FAR, -1] + list(range(len(plans))) + [len(plans), len(plans) + 1, FAR]
            told = ask_many(layers, needed, [(PLAN, k) for k in numbers])
            wanted = [[-5], [-5]] + [bytes_answer(plan[3]) for plan in plans] + [[-5], [-5], [-5]]
            self.assertEqual(told, wanted, (layers, needed))

    def test_rank_of_each_plan(self):
        for layers, needed, plans in BOARDS:
            told = ask_many(layers, needed, [reading(RANK, plan[3]) for plan in plans])
            self.assertEqual(told, [[k] for k in range(len(plans))], (layers, needed))

    def test_next_of_each_plan(self):
        for layers, needed, plans in BOARDS:
            told = ask_many(layers, needed, [reading(NEXT, plan[3]) for plan in plans])
            wanted = [bytes_answer(plan[3]) for plan in plans[1:]] + [[-5]]
            self.assertEqual(told, wanted if plans else [], (layers, needed))

    def test_plans_that_do_not_serve_all(self):
        draw = random.Random(5)
        for layers, needed, plans in BOARDS:
            serving = {plan[3] for plan in plans}
            others = [plan[3] for plan in all_plans(layers) if plan[3] not in serving]
            for other in draw.sample(others, min(len(others), 6)):
                told = ask_board(layers, needed, reading(RANK, other), reading(NEXT, other))
                self.assertEqual(told, [[-7], [-7]], (layers, needed, other))


class ByHand(unittest.TestCase):
    def test_the_six_plans_of_four_layers(self):
        texts = ["(1 [2 3] 4)", "(1 (2 [3 4]))", "(1 ([2 3] 4))", "([1 2] [3 4])", "((1 [2 3]) 4)", "(([1 2] 3) 4)"]
        self.assertEqual(ask(*[(PLAN, k) for k in range(6)]), [bytes_answer(each) for each in texts])
        self.assertEqual(ask(*[reading(RANK, each) for each in texts]), [[k] for k in range(6)])
        self.assertEqual(ask((PLAN, -1), (PLAN, 6), reading(NEXT, texts[5])), [[-5], [-5], [-5]])

    def test_numbers_go_by_the_needed_spans(self):
        told = ask_board(4, [(1, 3)], (PLAN, 0), (PLAN, 1), (PLAN, 2), reading(RANK, "(([1 2] 3) 4)"))
        self.assertEqual([text_in(each) for each in told[:2]], ["((1 [2 3]) 4)", "(([1 2] 3) 4)"])
        self.assertEqual(told[2:], [[-5], [1]])

    def test_two_layers_have_one_plan(self):
        for needed in ([], [(1, 2)]):
            told = ask_board(2, needed, (FLAT,), (PLAN, 0), (PLAN, 1), reading(RANK, "[1 2]"), reading(NEXT, "[1 2]"))
            self.assertEqual(told, [bytes_answer("[1 2]"), bytes_answer("[1 2]"), [-5], [0], [-5]])

    def test_flat_takes_a_part_that_is_deeper_than_it_must_be(self):
        # The layers 5 to 8 make the depth 3, so the press of 1 to 4 may be 2 deep: then it can begin with a foil.
        told = ask_board(8, [(1, 4), (3, 4), (6, 8)], (FLAT,), (DEPTH,))
        self.assertEqual((text_in(told[0]), told[1]), ("((1 (2 [3 4])) (5 (6 [7 8])))", [3]))
        # Where nothing else is as deep, the press of 1 to 4 is shallow.
        told = ask_board(8, [(1, 4), (3, 4)], (FLAT,), (DEPTH,))
        self.assertEqual((text_in(told[0]), told[1]), ("(([1 2] [3 4]) [5 6] [7 8])", [2]))

    def test_flat_may_have_more_presses_than_need_be(self):
        needed = [(1, 4), (3, 4), (6, 8)]
        told = ask_board(8, needed, (FLAT,), (BEST,), (LEAST,))
        self.assertEqual(text_in(told[1]).count("("), told[2][0])
        self.assertGreater(text_in(told[0]).count("("), told[2][0])

    def test_no_plan_serves_all(self):
        for layers, needed in ((4, [(1, 2), (2, 3)]), (4, [(1, 3), (2, 4)]), (24, [(1, 23), (2, 24)])):
            told = ask_board(layers, needed, (FLAT,), *[(PLAN, k) for k in (-FAR, -1, 0, 1, FAR)], (NEEDS,))
            self.assertEqual(told[:6], [[-4]] + [[-5]] * 5)
            self.assertEqual(told[6], [layers, 2] + [layer for span in needed for layer in span])


def numbers_to_try(count, draw):
    edges = [0, 1, 2, count // 2, count - 2, count - 1]
    return sorted({k for k in edges + [draw.randrange(count) for _ in range(12)] if 0 <= k < count})


class LargeBoards(unittest.TestCase):
    def test_rank_of_plan_is_the_number(self):
        draw = random.Random(24)
        for needed in LARGE:
            count = slow_value(24, needed, 1)
            numbers = numbers_to_try(count, draw)
            plans = [text_in(told) for told in ask_board(24, needed, *[(PLAN, k) for k in numbers])]
            self.assertEqual(ask_board(24, needed, *[reading(RANK, plan) for plan in plans]), [[k] for k in numbers])
            self.assertEqual(sorted(plans, key=lambda plan: order(parse(plan))), plans)
            for plan in plans:
                self.assertLessEqual(set(needed), spans(parse(plan)))

    def test_next_of_plan_is_the_plan_at_one_more(self):
        draw = random.Random(25)
        for needed in LARGE:
            count = slow_value(24, needed, 1)
            numbers = numbers_to_try(count, draw)
            plans = ask_board(24, needed, *[(PLAN, k) for k in numbers])
            behind = ask_board(24, needed, *[(PLAN, k + 1) for k in numbers])
            told = ask_board(24, needed, *[reading(NEXT, text_in(plan)) for plan in plans])
            self.assertEqual(told, behind)
            self.assertEqual(behind[-1], [-5])
            for plan, later in zip(plans, behind[:-1]):
                self.assertLess(order(parse(text_in(plan))), order(parse(text_in(later))))

    def test_edges_of_plan(self):
        for needed in LARGE:
            count = slow_value(24, needed, 1)
            told = ask_board(24, needed, *[(PLAN, k) for k in (-FAR, -1, count, count + 1, FAR)])
            self.assertEqual(told, [[-5]] * 5)

    def test_the_first_and_the_last_plan(self):
        count = slow_value(24, (), 1)
        first = "(1 " + " ".join("[%d %d]" % (k, k + 1) for k in range(2, 23, 2)) + " 24)"
        last = "[1 2]"
        for layer in range(3, 25):
            last = "(%s %d)" % (last, layer)
        told = ask_board(24, [], (PLAN, 0), (PLAN, count - 1), reading(RANK, first), reading(RANK, last))
        self.assertEqual(told, [bytes_answer(first), bytes_answer(last), [0], [count - 1]])
        self.assertEqual(ask_board(24, [], reading(NEXT, last), (COUNT,)), [[-5], [count]])

    def test_a_part_counts_for_all_rows_behind_it(self):
        # By the order, all plans that begin with a foil stand before those that begin with a core.
        core_first = "([1 2] " + " ".join("[%d %d]" % (k, k + 1) for k in range(3, 24, 2)) + ")"
        before = ask_board(24, [], reading(RANK, core_first))[0][0]
        self.assertEqual(text_in(ask_board(24, [], (PLAN, before))[0]), core_first)
        self.assertTrue(text_in(ask_board(24, [], (PLAN, before - 1))[0]).startswith("(1 "))
        # 23 layers pressed behind the foil, or several parts there: the second layer is no foil by itself.
        count = slow_value(23, (), 1)
        self.assertGreater(before, count)

    def test_flat(self):
        for needed in LARGE:
            wanted = slow_flat(24, needed)
            told = ask_board(24, needed, (FLAT,), (DEPTH,))
            self.assertEqual(told, [bytes_answer(text(wanted)), [depth(wanted)]])

    def test_flat_for_spans_of_any_plan(self):
        draw = random.Random(26)
        for layers in (12, 17, 23, 24):
            count = slow_value(layers, (), 1)
            for _ in range(25):
                plan = text_in(ask_board(layers, [], (PLAN, draw.randrange(count)))[0])
                every = sorted(spans(parse(plan)))
                needed = draw.sample(every, draw.randint(1, min(12, len(every))))
                told = ask_board(layers, needed, (FLAT,), reading(CHECK, plan))
                self.assertEqual(text_in(told[0]), text(slow_flat(layers, needed)), (layers, needed))
                self.assertEqual(told[1][0], 1)

    def test_each_number_of_a_board_with_few_plans_that_serve_all(self):
        needed = [(1, 12), (1, 6), (1, 9), (2, 6), (4, 6), (7, 9), (11, 12)]
        needed += [(13, 24), (13, 18), (19, 24), (13, 15), (19, 21)]
        count = slow_value(24, needed, 1)
        self.assertTrue(100 < count < 10000, count)
        plans = ask_many(24, needed, [(PLAN, k) for k in range(count)])
        texts = [text_in(plan) for plan in plans]
        self.assertEqual(len(set(texts)), count)
        self.assertEqual(sorted(texts, key=lambda each: order(parse(each))), texts)
        self.assertEqual(ask_many(24, needed, [reading(RANK, each) for each in texts]), [[k] for k in range(count)])

    def test_a_hundred_calls(self):
        for needed in LARGE:
            room = 100 - 1 - len(needed)
            plan = text_in(ask_board(24, needed, (PLAN, 7))[0])
            for call in ((FLAT,), (PLAN, 7), reading(RANK, plan), reading(NEXT, plan)):
                told = ask_board(24, needed, *[call] * room)
                self.assertEqual(told, [told[0]] * room)


if __name__ == "__main__":
    unittest.main()
