"""The interface: one list of whole numbers in, one list of whole numbers out."""

import contextlib
import io
import subprocess
import sys
import unittest
from pathlib import Path

from boardpresses.desk import answers

ROOT = Path(__file__).resolve().parent.parent


class Watched(list):
    """A list that tells when it is changed."""

    def refuse(self, *given, **named):
        raise AssertionError("what is handed in is changed")

    append = extend = insert = pop = remove = clear = sort = reverse = refuse
    __setitem__ = __delitem__ = __iadd__ = __imul__ = refuse


CALLS = [
    3, 0, 3, 5, 6, 2, 7, 8, 9, 1, 1, 2, 1, 1, 2, 1, 0, 2, 4, 3, 5, 9, 1, 2, 3, 4, 5, 6, 5, 7, 8, 9,
    2, 1, 2, 2, 1, 2, 3, 0, 25, 6, -1,
]
ANSWERS = [
    2, 4, 0,
    1, 0,
    1, 2,
    1, 4,
    1, 1,
    1, 1,
    10, 9, 40, 49, 32, 91, 50, 32, 51, 93, 41,
    1, 1,
    1, -2,
    1, -1,
    1, 0,
    4, 3, 1, 1, 2,
    1, 1,
    10, 9, 40, 91, 49, 32, 50, 93, 32, 51, 41,
    1, 2,
    5, 1, 1, 2, 2, 3,
    1, 0,
    1, 0,
    1, -4,
    1, -4,
    1, -4,
    1, 1,
    1, -2,
    4, 3, 1, 2, 3,
    1, -1,
    1, -1,
]


class Interface(unittest.TestCase):
    def test_counts_stand_before_the_answers(self):
        self.assertEqual(answers(CALLS), ANSWERS)

    def test_kinds(self):
        told = answers(CALLS)
        self.assertIs(type(told), list)
        self.assertEqual({type(number) for number in told}, {int})

    def test_what_is_handed_in_stays(self):
        handed = list(CALLS)
        answers(handed)
        self.assertEqual(handed, CALLS)
        self.assertEqual(answers(Watched(CALLS)), ANSWERS)

    def test_what_is_given_back_is_new(self):
        handed = [3]
        told = answers(handed)
        self.assertIsNot(told, handed)
        told.append(9)
        self.assertEqual(answers(handed), [2, 4, 0])

    def test_nothing_is_kept(self):
        self.assertEqual(answers([0, 9, 1, 1, 2]), [1, 0, 1, 1])
        self.assertEqual(answers([3]), [2, 4, 0])
        self.assertEqual(answers(CALLS), ANSWERS)
        self.assertEqual(answers(CALLS), ANSWERS)

    def test_one_call(self):
        self.assertEqual(answers([5]), [1, 6])
        self.assertEqual(answers([0, 1]), [1, -1])

    def test_a_hundred_calls(self):
        self.assertEqual(answers([5] * 100), [1, 6] * 100)

    def test_nothing_is_printed(self):
        out = io.StringIO()
        err = io.StringIO()
        with contextlib.redirect_stdout(out), contextlib.redirect_stderr(err):
            answers(CALLS)
        self.assertEqual((out.getvalue(), err.getvalue()), ("", ""))

    def test_nothing_but_the_package_is_imported(self):
        program = (
            "import sys; before = set(sys.modules); import boardpresses.desk; after = set(sys.modules); "
            "boardpresses.desk.answers([9]); assert set(sys.modules) == after; "
            "assert all(name.split('.')[0] == 'boardpresses' for name in after - before), after - before"
        )
        subprocess.run([sys.executable, "-c", program], cwd=ROOT, check=True)


if __name__ == "__main__":
    unittest.main()
