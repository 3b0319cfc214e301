import unittest

from jobqueue.desk import answers_on
from jobqueue.ending import end_job
from jobqueue.job import is_met
from tests.helper import board_after, submit

WITH_CODE, BY_ABEND, FLUSHED, CANCELLED = 2, 3, 4, 5


class MetTest(unittest.TestCase):
    def test_any_end(self):
        for n in (0, 4, 4095):
            for state in (WITH_CODE, BY_ABEND, FLUSHED, CANCELLED):
                self.assertTrue(is_met(0, n, state, 0))
            for code in (0, 4, 5, 4095):
                self.assertTrue(is_met(0, n, WITH_CODE, code))
                self.assertTrue(is_met(0, n, BY_ABEND, code))

    def test_code_at_most(self):
        self.assertEqual([is_met(1, 4, WITH_CODE, code) for code in (0, 3, 4, 5, 4095)],
                         [True, True, True, False, False])
        self.assertTrue(is_met(1, 4095, WITH_CODE, 4095))
        self.assertTrue(is_met(1, 0, WITH_CODE, 0))
        for state in (BY_ABEND, FLUSHED, CANCELLED):
            self.assertFalse(is_met(1, 4095, state, 0))

    def test_code_above_or_abend(self):
        self.assertEqual([is_met(2, 4, WITH_CODE, code) for code in (0, 3, 4, 5, 4095)],
                         [False, False, False, True, True])
        self.assertFalse(is_met(2, 4095, WITH_CODE, 4095))
        for code in (0, 4, 5, 4095):
            self.assertTrue(is_met(2, 4, BY_ABEND, code))
        for state in (FLUSHED, CANCELLED):
            self.assertFalse(is_met(2, 0, state, 0))

    def test_abend(self):
        for code in (0, 4, 5, 4095):
            self.assertTrue(is_met(3, 4, BY_ABEND, code))
            self.assertFalse(is_met(3, 4, WITH_CODE, code))
        for state in (FLUSHED, CANCELLED):
            self.assertFalse(is_met(3, 0, state, 0))


class EndTest(unittest.TestCase):
    """Ends that no call of this stage brings about."""

    def after_end(self, state, code):
        tests = [(1, 0, 0), (1, 1, 4), (1, 2, 4), (1, 3, 4)]
        board = board_after(submit(), *[submit(tests=[test]) for test in tests])
        flushed = end_job(board.jobs, board.jobs[1], state, code)
        self.assertEqual((board.jobs[1].state, board.jobs[1].code), (state, code))
        return flushed

    def test_with_a_code(self):
        self.assertEqual(self.after_end(WITH_CODE, 0), [4, 5])
        self.assertEqual(self.after_end(WITH_CODE, 4), [4, 5])
        self.assertEqual(self.after_end(WITH_CODE, 5), [3, 5])

    def test_by_an_abend(self):
        for code in (0, 4, 5, 4095):
            self.assertEqual(self.after_end(BY_ABEND, code), [3])

    def test_a_later_submit_asks_the_end_too(self):
        asked = submit(tests=[(1, 1, 4)]) + submit(tests=[(1, 2, 4)]) + submit(tests=[(1, 3, 4)])
        for state, code, told in ((WITH_CODE, 4, [2, -7, -7]), (WITH_CODE, 5, [-7, 2, -7]), (BY_ABEND, 0, [-7, 2, 3])):
            board = board_after(submit())
            end_job(board.jobs, board.jobs[1], state, code)
            self.assertEqual(answers_on(board, asked)[1::2], told)
            self.assertEqual(list(board.jobs), [1] + [number for number in told if number > 0])
