import contextlib
import io
import unittest

from jobqueue.desk import answers
from tests.helper import ask, begin, cancel, change, close, forget, hold, joined, letgo, limit, open_class, serve
from tests.helper import split, start, submit, tick

ONE_OF_EACH = [
    begin(3, 2, 1), submit(1, 2, 0, "AB1"), submit(2, 3, 1, "C", [(1, 1, 0)]), hold(1), letgo(1), change(1, 4, 5),
    start(2, [3, 1]), serve(2, [7]), limit(3, 4), close(5), open_class(5), tick(6), cancel(1), forget(1)]
ANSWERS = [1, 0, 1, 1, 1, 2, 1, 0, 1, 0, 1, 0, 1, 0, 1, 0, 1, 0, 1, 0, 1, 0, 1, 6, 3, 1, 1, 2, 1, 0]


class InterfaceTest(unittest.TestCase):
    def test_one_call(self):
        self.assertEqual(answers([7, 5]), [1, 5])
        self.assertEqual(answers([7, 0]), [1, -1])
        self.assertEqual(answers([1, 1, 0, 0, 1, 65, 0]), [1, 1])

    def test_several_calls(self):
        self.assertEqual(answers(joined(ONE_OF_EACH)), ANSWERS)

    def test_rows_are_read_to_their_ends_also_when_refused(self):
        told = ask(submit(class_of=0, name="A" * 300, tests=[1] * 400), start(0, [1] * 400), serve(0, []), tick(1))
        self.assertEqual(told, [[-1], [-1], [-1], [1]])

    def test_longest_name(self):
        self.assertEqual(ask(submit(name=[255] * 15000), submit()), [[-2], [1]])

    def test_four_hundred_calls(self):
        self.assertEqual(ask(*[submit() for turn in range(400)]), [[number] for number in range(1, 401)])
        self.assertEqual(ask(*[tick(2)] * 400), [[2 * number] for number in range(1, 401)])
        self.assertEqual(len(split(answers(joined([submit(name="B1", tests=[(1, 0, 0)] * 8)] * 400)))), 400)

    def test_the_object_is_new_each_time(self):
        calls = joined(ONE_OF_EACH)
        first = answers(calls)
        self.assertEqual(answers(calls), first)
        self.assertEqual(ask(submit(), start(1, [1]), close(1), tick(1)), [[1], [0], [0], [1]])
        self.assertEqual(ask(submit(), start(1, [1]), close(1), tick(1)), [[1], [0], [0], [1]])

    def test_what_is_handed_in_is_the_same_afterwards(self):
        calls = joined(ONE_OF_EACH)
        copy = list(calls)
        answers(calls)
        self.assertEqual(calls, copy)

    def test_what_is_given_back_is_the_callers_own(self):
        calls = joined(ONE_OF_EACH)
        answers(calls).clear()
        self.assertEqual(answers(calls), ANSWERS)

    def test_whole_numbers_and_lists_alone(self):
        told = answers(joined(ONE_OF_EACH))
        self.assertIs(type(told), list)
        self.assertEqual({type(number) for number in told}, {int})

    def test_prints_nothing(self):
        out, err = io.StringIO(), io.StringIO()
        with contextlib.redirect_stdout(out), contextlib.redirect_stderr(err):
            answers(joined(ONE_OF_EACH))
        self.assertEqual(out.getvalue() + err.getvalue(), "")
