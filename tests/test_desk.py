"""The interface: one list of whole numbers in, one list of whole numbers out."""

import contextlib
import io
import subprocess
import sys
import unittest
from pathlib import Path

from boardpresses.desk import answers

ROOT = Path(__file__).resolve().parent.parent


class Watched(list):
    """A list that tells when it is changed."""

    def refuse(self, *given, **named):
        raise AssertionError("what is handed in is changed")

    append = extend = insert = pop = remove = clear = sort = reverse = refuse
    __setitem__ = __delitem__ = __iadd__ = __imul__ = refuse


CALLS = [
    3, 0, 3, 5, 6, 2, 7, 8, 9, 1, 1, 2, 1, 1, 2, 1, 0, 2, 4, 3, 5, 9, 1, 2, 3, 4, 5, 6, 5, 7, 8, 9,
    2, 1, 2, 2, 1, 2, 3, 0, 25, 6, -1,
]
ANSWERS = [
    2, 4, 0,
    1, 0,
    1, 2,
    1, 4,
    1, 1,
    1, 1,
    10, 9, 40, 49, 32, 91, 50, 32, 51, 93, 41,
    1, 1,
    1, -2,
    1, -1,
    1, 0,
    4, 3, 1, 1, 2,
    1, 1,
    10, 9, 40, 91, 49, 32, 50, 93, 32, 51, 41,
    1, 2,
    5, 1, 1, 2, 2, 3,
    1, 0,
    1, 0,
    1, -4,
    1, -4,
    1, -4,
    1, 1,
    1, -2,
    4, 3, 1, 2, 3,
    1, -1,
    1, -1,
]


# The calls 10 to 18 on a board of 4 layers, the spans 1 3 and then 2 4 needed.
PLAN = list(b"((1 [2 3]) 4)")
TEXT = [13] + PLAN
MORE_CALLS = [
    10, 11, 5, 11, 6, 1, 1, 3, 10, 11, 0, 11, 2, 11, -1, 12] + TEXT + [13] + TEXT + [14] + TEXT + [15] + TEXT + [
    16] + TEXT + [17] + TEXT + [18, 3, 12] + TEXT + [13] + TEXT + [14] + TEXT + [17] + TEXT + [
    12, 0, 13, 1, 40, 14, 3, 40, 49, 41, 15, 1, 255, 16, 0, 17, 401] + [40] * 401 + [
    1, 1, 3, 10, 11, 0, 5]
MORE_ANSWERS = [
    12, 11] + list(b"(1 [2 3] 4)") + [
    14, 13] + list(b"(([1 2] 3) 4)") + [
    1, -5,
    1, 1,
    14] + TEXT + [
    14] + TEXT + [
    1, -5,
    1, -5,
    1, 0,
    14, 13] + list(b"(([1 2] 3) 4)") + [
    4, 1, 2, 2, 1,
    7, 3, 1, 3, 1, 4, 2, 3,
    14, 13] + list(b"(1 ([2 3] 4))") + [
    13, 3, 0, 2, 3, 0, 1, 1, 3, 1, 1, 1, 4, 0,
    1, 0,
    4, 4, 1, 2, 4,
    1, -7,
    1, -7,
    4, 0, 2, 2, 1,
    13, 3, 0, 2, 3, 0, 1, 1, 3, 0, 1, 1, 4, 0,
    1, -1000,
    1, -1001,
    1, -6,
    1, -1000,
    1, -1000,
    1, -8,
    1, 2,
    1, -4,
    1, -5,
    1, 0,
]
LISTS = ((CALLS, ANSWERS), (MORE_CALLS, MORE_ANSWERS))


class Interface(unittest.TestCase):
    def test_counts_stand_before_the_answers(self):
        for calls, wanted in LISTS:
            self.assertEqual(answers(calls), wanted)

    def test_kinds(self):
        for calls, _ in LISTS:
            told = answers(calls)
            self.assertIs(type(told), list)
            self.assertEqual({type(number) for number in told}, {int})

    def test_what_is_handed_in_stays(self):
        for calls, wanted in LISTS:
            handed = list(calls)
            answers(handed)
            self.assertEqual(handed, calls)
            self.assertEqual(answers(Watched(calls)), wanted)

    def test_what_is_given_back_is_new(self):
        handed = [3]
        told = answers(handed)
        self.assertIsNot(told, handed)
        told.append(9)
        self.assertEqual(answers(handed), [2, 4, 0])

    def test_nothing_is_kept(self):
        self.assertEqual(answers([0, 9, 1, 1, 2]), [1, 0, 1, 1])
        self.assertEqual(answers([3]), [2, 4, 0])
        for calls, wanted in LISTS + LISTS:
            self.assertEqual(answers(calls), wanted)
        self.assertEqual(answers([0, 9, 1, 1, 2, 18]), [1, 0, 1, 1, 1, 0])
        self.assertEqual(answers([3]), [2, 4, 0])

    def test_one_call(self):
        self.assertEqual(answers([5]), [1, 6])
        self.assertEqual(answers([0, 1]), [1, -1])
        self.assertEqual(answers([18]), [1, 0])
        self.assertEqual(answers([12, 0]), [1, -1000])
        self.assertEqual(answers([11, -1]), [1, -5])

    def test_a_hundred_calls(self):
        self.assertEqual(answers([5] * 100), [1, 6] * 100)

    def test_nothing_is_printed(self):
        out = io.StringIO()
        err = io.StringIO()
        with contextlib.redirect_stdout(out), contextlib.redirect_stderr(err):
            answers(CALLS)
            answers(MORE_CALLS)
        self.assertEqual((out.getvalue(), err.getvalue()), ("", ""))

    def test_nothing_but_the_package_is_imported(self):
        program = (
            "import sys; before = set(sys.modules); import boardpresses.desk; after = set(sys.modules); "
            f"boardpresses.desk.answers({CALLS + MORE_CALLS}); assert set(sys.modules) == after; "
            "assert all(name.split('.')[0] == 'boardpresses' for name in after - before), after - before"
        )
        subprocess.run([sys.executable, "-c", program], cwd=ROOT, check=True)

    def test_few_calls_stand_within_one_another(self):
        deep = b"(" * 32 + b"1" + b")" * 32
        plan = b"[1 2]"
        for layer in range(3, 25):
            plan = b"(%b %d)" % (plan, layer)
        calls = [14, len(deep), *deep, 0, 24, 9, 10, 11, 17089399689215]
        for number in (12, 13, 14, 15, 16, 17):
            calls += [number, len(plan), *plan]
        # A fourth of Python's own limit is enough for the deepest text and the deepest plan.
        program = (
            "import sys; import boardpresses.desk; sys.setrecursionlimit(250); "
            f"assert len(boardpresses.desk.answers({calls})) > 0"
        )
        subprocess.run([sys.executable, "-c", program], cwd=ROOT, check=True)

    def test_as_many_calls_as_one_by_one(self):
        ahead = [0, 24, 1, 1, 6, 1, 3, 5]
        plan = answers(ahead + [11, 123456])[7:]
        calls = [[10], [11, 99], [9], [18], [5]] + [[number, *plan] for number in (12, 13, 14, 15, 16, 17)]
        together = answers(ahead + [number for call in calls for number in call])
        turned = False
        apart = answers(ahead)
        for call in calls:
            apart += answers(ahead + ([18] if turned else []) + call)[8 if turned else 6:]
            turned = turned or call == [18]
        self.assertEqual(together, apart)


if __name__ == "__main__":
    unittest.main()
