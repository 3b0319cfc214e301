from tests.helper import DeskCase, ask, board_after, cancel, forget, hold, submit


class ForgetTest(DeskCase):
    def test_a_cancelled_job(self):
        self.assertEqual(ask(submit(), cancel(1), forget(1), forget(1), hold(1)), [[1], [0, 0], [0], [-4], [-4]])

    def test_a_flushed_job(self):
        self.assertEqual(ask(submit(), submit(tests=[(1, 1, 0)]), cancel(1), forget(2), forget(2))[2:],
                         [[1, 1, 2], [0], [-4]])

    def test_only_the_job_named(self):
        before = [submit(), submit(), submit(), cancel(1), cancel(2)]
        self.assertEqual(ask(*before, forget(1), cancel(3), forget(2))[5:], [[0], [0, 0], [0]])
        self.assertEqual(list(board_after(*before, forget(1)).jobs), [2, 3])

    def test_refusals_of_a_call_on_a_job(self):
        self.refuses_as_job([submit(), cancel(1)], forget)

    def test_not_ended(self):
        self.refuses([submit()], forget(1), -6)
        self.refuses([submit(held=1)], forget(1), -6)
        self.refuses([submit(), submit(tests=[(1, 0, 0)]), cancel(1)], forget(2), -6)
