import contextlib
import io
import unittest

from jobqueue.desk import answers
from tests.helper import after, ask, begin, cancel, change, class_of_number, close, counts, drain, finish, forget, hold
from tests.helper import initiator_of, joined, letgo, limit, open_class, order, peek, pick, requeue, running, serve
from tests.helper import split, start, status, submit, tests_of, tick

# Each of the 26 calls, with what it answers.
CALLS = [
    (begin(9, 2, 5), [0]), (submit(1, 2, 0, "AB1"), [1]), (submit(2, 3, 1, "C", [(1, 1, 0)]), [2]), (hold(1), [0]),
    (letgo(1), [0]), (change(1, 4, 5), [0]), (start(2, [3, 1]), [0]), (serve(2, [7, 4]), [0]), (limit(3, 4), [0]),
    (close(5), [0]), (open_class(5), [0]), (tick(6), [6]), (order(4), [1, 1, 1]), (peek(2), [1]), (pick(2), [1]),
    (running(), [1, 2, 2, 1]), (initiator_of(2), [1, 2, 7, 4, 2, 0, 1]), (tests_of(2), [1, 3, 1, 1, 0]),
    (after(1), [1, 1, 2]), (requeue(2), [1]), (status(1), [0, 3, 65, 66, 49, 9, 0, 0, 4, 5, 6, 1, 6, 0, 0]),
    (letgo(1), [0]), (pick(2), [1]), (drain(2), [1]), (finish(2, 0, 8), [1, 1, 2]), (counts(), [2, 3, 0, 0, 0]),
    (status(1), [0, 3, 65, 66, 49, 9, 2, 8, 4, 5, 6, 0, 6, 0, 0]),
    (status(2), [0, 1, 67, 9, 4, 0, 2, 3, 3, 0, 0, 0, 0]),
    (class_of_number(3), [4, 3, 0, 0, 0]), (submit(3), [3]), (cancel(3), [0, 0]), (forget(3), [0])]
ONE_OF_EACH = [call for call, answer in CALLS]
ANSWERS = joined([[len(answer)] + answer for call, answer in CALLS])


class UnchangedList(list):
    """A list that fails when it is changed, for a while too."""

    def fail(self, *rest):
        raise AssertionError("the list that was handed in is changed")

    append = extend = insert = pop = remove = reverse = clear = sort = fail
    __setitem__ = __delitem__ = __iadd__ = __imul__ = fail


class InterfaceTest(unittest.TestCase):
    def test_one_call(self):
        self.assertEqual(answers([7, 5]), [1, 5])
        self.assertEqual(answers([7, 0]), [1, -1])
        self.assertEqual(answers([1, 1, 0, 0, 1, 65, 0]), [1, 1])

    def test_each_of_the_calls(self):
        self.assertEqual({call[0] for call in ONE_OF_EACH}, set(range(26)))
        self.assertEqual(answers(joined(ONE_OF_EACH)), ANSWERS)

    def test_each_call_may_be_the_first(self):
        told = {0: [0], 1: [1], 7: [6], 8: [0], 9: [0], 10: [-5], 11: [0], 18: [0, 0], 22: [0, 0], 23: [0, 3, 0, 0, 0],
                24: [0, 0, 2, 0, 0], 25: [16, 3, 0, 0, 0]}
        told.update({number: [-4] for number in (2, 3, 4, 5, 6, 19, 20, 21)})
        told.update({number: [-3] for number in (12, 13, 14, 15, 16, 17)})
        first = {}
        for call in ONE_OF_EACH:
            first.setdefault(call[0], call)
        for number, call in first.items():
            self.assertEqual(answers(call), [len(told[number])] + told[number], call)

    def test_rows_are_read_to_their_ends_also_when_refused(self):
        told = ask(submit(class_of=0, name="A" * 300, tests=[1] * 400), start(0, [1] * 400), serve(0, []), tick(1))
        self.assertEqual(told, [[-1], [-1], [-1], [1]])

    def test_longest_name(self):
        self.assertEqual(ask(submit(name=[255] * 15000), submit()), [[-2], [1]])

    def test_four_hundred_calls(self):
        self.assertEqual(ask(*[submit() for turn in range(400)]), [[number] for number in range(1, 401)])
        self.assertEqual(ask(*[tick(2)] * 400), [[2 * number] for number in range(1, 401)])
        self.assertEqual(len(split(answers(joined([submit(name="B1", tests=[(1, 0, 0)] * 8)] * 400)))), 400)
        self.assertEqual(answers([22] * 400), [2, 0, 0] * 400)
        calls = (ONE_OF_EACH * 13)[:400]
        self.assertEqual(len(calls), 400)
        self.assertEqual(answers(joined(calls)), joined([[len(told)] + told for told in ask(*calls)]))
        self.assertEqual(answers(joined(calls))[:12 * len(ANSWERS)], ANSWERS * 12)

    def test_four_hundred_calls_of_running_and_ending(self):
        calls = [start(1, [1])] + [submit(name="J" + str(turn)) for turn in range(133)]
        calls += [pick(1), finish(1)] * 133
        told = ask(*calls)
        self.assertEqual(len(told), 400)
        # By the tenth pick all of those left are due, in the order of their numbers.
        self.assertEqual(told[134::2], [[number] for number in range(1, 134)])
        self.assertEqual(told[135::2], [[0, 0]] * 133)

    def test_the_object_is_new_each_time(self):
        calls = joined(ONE_OF_EACH)
        first = answers(calls)
        self.assertEqual(answers(calls), first)
        for turn in range(2):
            self.assertEqual(ask(submit(), start(1, [1]), pick(1), close(1), tick(1)), [[1], [0], [1], [0], [1]])

    def test_what_is_handed_in_is_the_same_afterwards(self):
        calls = joined(ONE_OF_EACH)
        copy = list(calls)
        answers(calls)
        self.assertEqual(calls, copy)

    def test_what_is_handed_in_is_not_changed_for_a_while_either(self):
        self.assertEqual(answers(UnchangedList(joined(ONE_OF_EACH))), ANSWERS)

    def test_what_is_given_back_is_the_callers_own(self):
        calls = joined(ONE_OF_EACH)
        answers(calls).clear()
        self.assertEqual(answers(calls), ANSWERS)

    def test_whole_numbers_and_lists_alone(self):
        told = answers(joined(ONE_OF_EACH))
        self.assertIs(type(told), list)
        self.assertEqual({type(number) for number in told}, {int})

    def test_prints_nothing(self):
        out, err = io.StringIO(), io.StringIO()
        with contextlib.redirect_stdout(out), contextlib.redirect_stderr(err):
            answers(joined(ONE_OF_EACH))
        self.assertEqual(out.getvalue() + err.getvalue(), "")
