"""How the calls rank, next, check, spans, mirror and steps read a text."""

import itertools
import random
import re
import unittest
from functools import lru_cache

from plain_plans import CHECK, NEEDS, NEXT, PLAN, RANK, READING
from plain_plans import all_plans, ask, ask_board, ask_many, blocks, reading

NOT_A_PLAN = [-6]
TOO_LONG = [-8]


def wrong_at(place):
    return [-1000 - place]


def is_whole(written):
    """Whether a text has the form of one part: what is complete is folded until one sign is left."""
    if re.search(r"[^0-9 ()\[\]]", written):
        return False
    level = 0
    for sign in written:
        level += {"(": 1, ")": -1}.get(sign, 0)
        if level > 32:
            return False
    folded = re.sub(r"\[[1-9][0-9]? [1-9][0-9]?\]", "P", written)
    folded = re.sub(r"(?<![0-9])[1-9][0-9]?(?![0-9])", "P", folded)
    before = None
    while folded != before:
        before = folded
        folded = re.sub(r"\(P(?: P)*\)", "P", folded)
    return folded == "P"


@lru_cache(maxsize=None)
def can_go_on(written):
    """Whether some text begins so: one of the shortest ways to complete it makes a whole."""
    missing = ")" * (written.count("(") - written.count(")"))
    return any(is_whole(written + more + missing) for more in ("", "1", "1 1]", " 1]", "1]", "]"))


def plain_place(written):
    """Where a text is wrong, or None."""
    if is_whole(written):
        return None
    for place in range(len(written)):
        if not can_go_on(written[:place + 1]):
            return place
    return len(written)


@lru_cache(maxsize=None)
def plan_texts(layers):
    return {plan[3]: plan for plan in all_plans(layers)}


def plain_check(layers, written):
    """What check answers where no span is needed."""
    place = plain_place(written)
    if place is not None:
        return wrong_at(place)
    if written not in plan_texts(layers):
        return NOT_A_PLAN
    plan = plan_texts(layers)[written]
    return [1, plan[1], plan[2], written.count("[")]


class Refused(unittest.TestCase):
    def refuse(self, layers, written, answer):
        """All calls that read refuse the text so, and the board stays."""
        calls = [reading(number, written) for number in READING]
        told = ask_board(layers, [(1, 2)], *calls, (NEEDS,))
        self.assertEqual(told, [answer] * len(calls) + [[layers, 1, 1, 2]], written)


class Places(Refused):
    def test_texts_of_no_byte_and_of_one(self):
        self.refuse(4, b"", wrong_at(0))
        for byte in range(256):
            if byte in b"([":
                self.refuse(4, bytes([byte]), wrong_at(1))
            elif byte in b"123456789":
                self.refuse(4, bytes([byte]), NOT_A_PLAN)
            else:
                self.refuse(4, bytes([byte]), wrong_at(0))

    def test_numbers(self):
        for written, answer in (
            ("0", wrong_at(0)), ("01", wrong_at(0)), ("9", NOT_A_PLAN), ("10", NOT_A_PLAN), ("99", NOT_A_PLAN),
            ("100", wrong_at(2)), ("990", wrong_at(2)), ("-1", wrong_at(0)), ("+1", wrong_at(0)), ("1.", wrong_at(1)),
            ("(0 [2 3])", wrong_at(1)), ("(01 [2 3])", wrong_at(1)), ("(1 [0 3])", wrong_at(4)),
            ("(1 [02 3])", wrong_at(4)), ("(1 [2 03])", wrong_at(6)), ("(1 [2 3] 04)", wrong_at(9)),
            ("(10 [2 3] 4)", NOT_A_PLAN), ("(1 [2 99] 4)", NOT_A_PLAN), ("(1 [2 3] 100)", wrong_at(11)),
            ("(1 [2 100] 4)", wrong_at(8)), ("(1 [100 3] 4)", wrong_at(6)), ("(100 [2 3] 4)", wrong_at(3)),
            ("(1 [2 3]00)", wrong_at(8)), ("(1/ [2 3] 4)", wrong_at(2)), ("(1: [2 3] 4)", wrong_at(2)),
        ):
            self.refuse(4, written, answer)

    def test_bytes_behind_a_complete_text(self):
        for written in ("[1 2]", "(1 [2 3] 4)", "9", "10"):
            for byte in b" \x00\xff()[]x\n":
                self.refuse(4, written.encode() + bytes([byte]), wrong_at(len(written)))
        self.refuse(4, "(1 [2 3] 4)0", wrong_at(11))
        self.refuse(4, "(1 [2 3] 4) (1 [2 3] 4)", wrong_at(11))
        self.refuse(4, "1 2", wrong_at(1))

    def test_blanks(self):
        for written, place in (
            (" (1 [2 3] 4)", 0), ("( 1 [2 3] 4)", 1), ("(1  [2 3] 4)", 3), ("(1 [ 2 3] 4)", 4), ("(1 [2  3] 4)", 6),
            ("(1 [2 3 ] 4)", 7), ("(1 [2 3]  4)", 9), ("(1 [2 3] 4 )", 11), ("(1 [2 3] 4) ", 11), ("(1[2 3] 4)", 2),
            ("(1 [2 3]4)", 8), ("(1\t[2 3] 4)", 2), ("(1 [2,3] 4)", 5), ("(1 [23] 4)", 6), ("((1 [2 3])4)", 10),
            ("([1 2](3 [4 5]))", 6), ("([1 2][3 4])", 6), ("(1 )", 3), ("(1 [2 3] )", 9), (" ", 0), ("( )", 1),
        ):
            self.refuse(4, written, wrong_at(place))

    def test_empty_presses_and_cores(self):
        for written, place in (
            ("()", 1), ("(1 () 4)", 4), ("(() [2 3])", 2), ("(())", 2), ("[]", 1), ("(1 [] 4)", 4), (")", 0), ("]", 0),
            ("(]", 1), ("[)", 1), ("(1]", 2), ("[1)", 2), ("(1 [2 3) 4)", 7), ("(1 [2 3] 4]", 10),
        ):
            self.refuse(4, written, wrong_at(place))

    def test_cores(self):
        for written, place in (
            ("[1]", 2), ("[1 ]", 3), ("[1 2 3]", 4), ("(1 [2 3 4])", 7), ("[[1 2] 3]", 1), ("[1 [2 3]]", 3),
            ("[1 (2 3)]", 3), ("[(1 2) 3]", 1), ("[12]", 3), ("[1-2]", 2), ("[ 1 2]", 1),
        ):
            self.refuse(4, written, wrong_at(place))

    def test_texts_that_end_before_they_are_complete(self):
        for written in ("(1 [2 3] 4)", "([1 2] (3 [4 5]))", "(((1 [2 3]) [4 5] 6) ([7 8] [9 10]))", "[10 11]"):
            for length in range(len(written)):
                self.refuse(5, written[:length], wrong_at(length))

    def test_bytes_that_no_text_has(self):
        written = b"(1 [2 3] 4)"
        for byte in (0, 1, 9, 10, 13, 31, 33, 39, 42, 47, 58, 65, 92, 94, 123, 127, 128, 160, 178, 254, 255):
            for place in range(len(written)):
                self.refuse(4, written[:place] + bytes([byte]) + written[place:], wrong_at(place))
                self.refuse(4, written[:place] + bytes([byte]) + written[place + 1:], wrong_at(place))

    def test_brackets_within_one_another(self):
        for deep in (1, 2, 31, 32):
            self.refuse(4, "(" * deep + "1" + ")" * deep, NOT_A_PLAN)
            self.refuse(4, "(" * deep + "[1 2]" + ")" * deep, NOT_A_PLAN)
            self.refuse(4, "(" * deep, wrong_at(deep))
            self.refuse(4, "(" * deep + "1" + ")" * (deep - 1), wrong_at(2 * deep))
            self.refuse(4, "(" * deep + "1" + ")" * (deep + 1), wrong_at(2 * deep + 1))
        for deep in (33, 34, 100, 200):
            self.refuse(4, "(" * deep + "1" + ")" * (deep - 1), wrong_at(32))
            self.refuse(4, "(" * deep, wrong_at(32))

    def test_closed_brackets_do_not_count_as_deep(self):
        deep = "(" * 31 + "1" + ")" * 31
        self.refuse(4, "(" + deep + " " + deep + ")", NOT_A_PLAN)
        self.refuse(4, "(" + deep + " (" + deep + "))", wrong_at(1 + len(deep) + 1 + 31 + 1 - 1))
        self.refuse(4, "(" + " ".join(["(1)"] * 40) + ")", NOT_A_PLAN)

    def test_lengths(self):
        whole = {399: "(" + "1 " * 198 + "1)", 400: "(" + "1 " * 198 + "10)"}
        for length, written in whole.items():
            self.assertEqual(len(written), length)
            self.refuse(4, written, NOT_A_PLAN)
        self.refuse(4, "(" + "1 " * 199 + "1", wrong_at(400))
        self.refuse(4, "(" + "1 " * 199 + "x", wrong_at(399))
        self.refuse(4, "x" * 400, wrong_at(0))
        self.refuse(4, "(" + "1 " * 199 + "1)", TOO_LONG)
        for length in (401, 402, 499, 500):
            self.refuse(4, "x" * length, TOO_LONG)
            self.refuse(4, "(" * length, TOO_LONG)
            self.refuse(4, ("(1 [2 3] 4)" + " " * 500)[:length], TOO_LONG)
            self.refuse(4, bytes(length), TOO_LONG)


class NotThisBoardsPlan(Refused):
    def test_by_hand(self):
        for layers, written in (
            (2, "1"), (2, "2"), (2, "(1 2)"), (2, "([1 2])"), (2, "[2 1]"), (2, "[1 1]"), (2, "[2 3]"), (2, "[1 3]"),
            (2, "(1 [2 3])"), (2, "(1 (2))"), (2, "((1) 2)"), (2, "[10 11]"),
            (3, "(1 2 3)"), (3, "((1 [2 3]))"), (3, "[1 2]"), (3, "[2 3]"), (3, "(1 [3 2])"), (3, "([2 3] 1)"),
            (3, "([1 3] 2)"), (3, "(1 [2 4])"), (3, "([1 1] [2 3])"), (3, "((1) [2 3])"), (3, "([1 2] (3))"),
            (3, "([1 2] [3 3])"), (3, "(1 (2 3))"), (3, "((1 2) 3)"), (3, "([1 2] [2 3])"), (3, "(2 [3 4])"),
            (3, "(1 [2 3] 4)"), (3, "(1 ([2 3]))"), (3, "([1 2] 3 3)"), (3, "(1 1 [2 3])"), (3, "(1 [2 3] 3)"),
            (4, "(1 2 [3 4])"), (4, "([1 2] 3 4)"), (4, "(1 [2 3])"), (4, "([1 2] [4 5])"), (4, "([1 2] 4)"),
            (4, "([1 2] [3 4] 5)"), (4, "((1 [2 3] 4))"), (4, "([3 4] [1 2])"), (4, "(4 [2 3] 1)"), (4, "(1 [2 3] 5)"),
            (4, "([1 2] [4 3])"), (4, "(1 [2 3] [4 4])"), (4, "([1 2] (3 4))"), (4, "(1 (2) [3 4])"),
            (5, "([1 2] 3 [4 5])"), (5, "(1 [2 3] 4)"), (5, "([1 2] [3 4])"), (5, "([1 2] (3) [4 5])"),
            (24, "[1 2]"), (24, "(1 [2 3] 4)"), (24, "24"), (24, "(" + " ".join(str(k) for k in range(1, 25)) + ")"),
        ):
            self.refuse(layers, written, NOT_A_PLAN)

    def test_a_plan_of_another_number_of_layers(self):
        for layers, others in itertools.permutations((2, 3, 4, 5), 2):
            for plan in all_plans(others):
                self.refuse(layers, plan[3], NOT_A_PLAN)

    def test_the_board_tells_what_is_a_plan(self):
        told = ask(reading(CHECK, "(1 [2 3])"), (0, 3), reading(CHECK, "(1 [2 3])"), (0, 4), reading(CHECK, "(1 [2 3])"))
        self.assertEqual(told, [[-6], [0], [1, 1, 1, 1], [0], [-6]])


def bracketings(a, b, deepest):
    """All texts with the layers a to b, each once and in order: presses of any parts, so also such as are no plans."""
    found = [str(a)] if a == b else ["[%d %d]" % (a, b)] if a + 1 == b else []
    if deepest > 0:
        for row in blocks(a, b):
            inner = [bracketings(c, d, deepest - 1) for c, d in row]
            found.extend("(" + " ".join(parts) + ")" for parts in itertools.product(*inner))
    return found


class AgainstAPlainReading(unittest.TestCase):
    def compare(self, layers, texts):
        told = ask_many(layers, [], [reading(CHECK, written) for written in texts])
        for written, answer in zip(texts, told):
            self.assertEqual(answer, plain_check(layers, written), (layers, written))

    def test_all_short_texts(self):
        for length in range(6):
            texts = ["".join(signs) for signs in itertools.product("()[] 012", repeat=length)]
            self.compare(2, texts)

    def test_all_short_texts_that_begin_as_a_press(self):
        texts = ["([1 2]" + "".join(signs) for signs in itertools.product("()[] 034", repeat=4)]
        self.compare(3, texts)
        self.compare(4, texts)

    def test_all_bracketings(self):
        for layers, deepest in ((2, 3), (3, 3), (4, 3)):
            texts = bracketings(1, layers, deepest)
            self.compare(layers, texts)
            self.assertLess(set(plan_texts(layers)), set(texts))

    def test_plans_with_a_fault(self):
        draw = random.Random(11)
        for layers in (3, 4, 5, 6, 7, 8):
            texts = []
            for _ in range(700):
                written = draw.choice(all_plans(layers))[3]
                for _ in range(draw.randint(1, 2)):
                    place = draw.randint(0, len(written))
                    sign = draw.choice(["", "(", ")", "[", "]", " ", "0", "1", "3", "9", "x", "(1)", " 2", "[3 4]"])
                    written = written[:place] + sign + written[place + draw.randint(0, 2):]
                texts.append(written)
            self.compare(layers, texts)


class OrderOfRefusals(unittest.TestCase):
    def test_the_length_is_looked_at_first(self):
        told = ask_board(4, [(1, 2), (2, 3)], *[reading(number, "(" * 401) for number in READING])
        self.assertEqual(told, [TOO_LONG] * 6)

    def test_the_form_is_looked_at_before_the_plan(self):
        for written, place in (("(9 [8 7] 0)", 9), ("(1 2 3 4 5 6 7 8 9 10 ", 22), ("([1 1] [1 1]))", 13)):
            told = ask_board(4, [(1, 2), (2, 3)], *[reading(number, written) for number in READING])
            self.assertEqual(told, [wrong_at(place)] * 6)

    def test_the_plan_is_looked_at_before_what_it_serves(self):
        for needed in ([(1, 4)], [(1, 2), (2, 3)], [(3, 4)]):
            for written in ("(1 [2 3])", "(1 [2 3] [4 5])", "(1 2 3 4)", "4"):
                told = ask_board(4, needed, *[reading(number, written) for number in READING])
                self.assertEqual(told, [NOT_A_PLAN] * 6)

    def test_what_it_serves_is_looked_at_before_what_is_behind_it(self):
        last = "(([1 2] 3) 4)"
        self.assertEqual(ask(reading(NEXT, last)), [[-5]])
        self.assertEqual(ask_board(4, [(1, 3)], reading(NEXT, last)), [[-5]])
        for needed in ([(3, 4)], [(2, 3)], [(1, 2), (2, 3)], [(1, 3), (2, 4)]):
            told = ask_board(4, needed, reading(RANK, last), reading(NEXT, last), (PLAN, 0))
            self.assertEqual(told[:2], [[-7], [-7]])


class ManyBytes(unittest.TestCase):
    def test_lists_of_nearly_17000_numbers(self):
        whole = "(" + "1 " * 198 + "10)"
        for written, answer in (("(" * 500, TOO_LONG), (whole, NOT_A_PLAN), ("(1 " * 32 + "(" * 304, wrong_at(96))):
            calls = [reading(READING[k % 6], written) for k in range(16999 // (len(written) + 2))]
            self.assertEqual(ask(*calls), [answer] * len(calls))

    def test_what_stands_behind_a_text_is_the_next_call(self):
        told = ask(reading(CHECK, ""), (NEEDS,), reading(RANK, "x"), (PLAN, 3), reading(CHECK, b"\x00" * 7), (NEEDS,))
        self.assertEqual(told, [[-1000], [4, 0], [-1000], [13] + list(b"([1 2] [3 4])"), [-1000], [4, 0]])


if __name__ == "__main__":
    unittest.main()
