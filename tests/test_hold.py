from tests.helper import DeskCase, ask, board_after, cancel, hold, letgo, submit


class HoldTest(DeskCase):
    def test_holds(self):
        self.assertEqual(ask(submit(), hold(1), letgo(1), hold(1)), [[1], [0], [0], [0]])
        self.assertIs(board_after(submit(), hold(1)).jobs[1].held, True)

    def test_only_the_job_named(self):
        self.assertEqual(ask(submit(), submit(), hold(2), letgo(1), letgo(2))[2:], [[0], [-5], [0]])

    def test_a_job_with_tests(self):
        self.tells([submit(), submit(tests=[(1, 0, 0)])], hold(2), [0])

    def test_refusals_of_a_call_on_a_job(self):
        self.refuses_as_job([submit()], hold)

    def test_not_waiting(self):
        self.refuses([submit(), cancel(1)], hold(1), -6)
        self.refuses([submit(held=1), cancel(1)], hold(1), -6)
        self.refuses([submit(), submit(tests=[(1, 3, 0)]), cancel(1)], hold(2), -6)

    def test_held_already(self):
        self.refuses([submit(held=1)], hold(1), -5)
        self.refuses([submit(), hold(1)], hold(1), -5)


class LetgoTest(DeskCase):
    def test_lets_go(self):
        self.assertEqual(ask(submit(held=1), letgo(1), hold(1), letgo(1)), [[1], [0], [0], [0]])
        self.assertIs(board_after(submit(held=1), letgo(1)).jobs[1].held, False)

    def test_only_the_job_named(self):
        self.assertEqual(ask(submit(held=1), submit(held=1), letgo(2), hold(1), hold(2))[2:], [[0], [-5], [0]])

    def test_refusals_of_a_call_on_a_job(self):
        self.refuses_as_job([submit(held=1)], letgo)

    def test_not_waiting(self):
        self.refuses([submit(), cancel(1)], letgo(1), -6)
        self.refuses([submit(held=1), cancel(1)], letgo(1), -6)
        self.refuses([submit(), submit(held=1, tests=[(1, 3, 0)]), cancel(1)], letgo(2), -6)

    def test_not_held(self):
        self.refuses([submit()], letgo(1), -5)
        self.refuses([submit(held=1), letgo(1)], letgo(1), -5)
