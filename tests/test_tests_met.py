import unittest

from jobqueue.job import is_met

WITH_CODE, BY_ABEND, FLUSHED, CANCELLED = 2, 3, 4, 5


class MetTest(unittest.TestCase):
    def test_any_end(self):
        for n in (0, 4, 4095):
            for state in (WITH_CODE, BY_ABEND, FLUSHED, CANCELLED):
                self.assertTrue(is_met(0, n, state, 0))
            for code in (0, 4, 5, 4095):
                self.assertTrue(is_met(0, n, WITH_CODE, code))
                self.assertTrue(is_met(0, n, BY_ABEND, code))

    def test_code_at_most(self):
        self.assertEqual([is_met(1, 4, WITH_CODE, code) for code in (0, 3, 4, 5, 4095)],
                         [True, True, True, False, False])
        self.assertTrue(is_met(1, 4095, WITH_CODE, 4095))
        self.assertTrue(is_met(1, 0, WITH_CODE, 0))
        for state in (BY_ABEND, FLUSHED, CANCELLED):
            self.assertFalse(is_met(1, 4095, state, 0))

    def test_code_above_or_abend(self):
        self.assertEqual([is_met(2, 4, WITH_CODE, code) for code in (0, 3, 4, 5, 4095)],
                         [False, False, False, True, True])
        self.assertFalse(is_met(2, 4095, WITH_CODE, 4095))
        for code in (0, 4, 5, 4095):
            self.assertTrue(is_met(2, 4, BY_ABEND, code))
        for state in (FLUSHED, CANCELLED):
            self.assertFalse(is_met(2, 0, state, 0))

    def test_abend(self):
        for code in (0, 4, 5, 4095):
            self.assertTrue(is_met(3, 4, BY_ABEND, code))
            self.assertFalse(is_met(3, 4, WITH_CODE, code))
        for state in (FLUSHED, CANCELLED):
            self.assertFalse(is_met(3, 0, state, 0))
