from jobqueue.desk import answers_on
from tests.helper import DeskCase, ask, board_after, cancel, change, finish, forget, hold, letgo, pick, row_told, start
from tests.helper import status, status_told, submit, tests_of


class CancelTest(DeskCase):
    def test_none_behind_it(self):
        self.assertEqual(ask(submit(), cancel(1), hold(1)), [[1], [0, 0], [-6]])
        self.assertEqual(ask(submit(), submit(), cancel(1), hold(2)), [[1], [2], [0, 0], [0]])

    def test_the_count_the_row_and_how_they_lie(self):
        self.assertEqual(answers_on(board_after(submit(), submit(tests=[(1, 1, 0)])), cancel(1)), [3, 1, 1, 2])
        self.assertEqual(answers_on(board_after(submit()), cancel(1)), [2, 0, 0])

    def test_a_held_job(self):
        self.tells([submit(held=1)], cancel(1), [0, 0])

    def test_a_job_with_tests_that_stay_unasked(self):
        told = ask(submit(), submit(tests=[(1, 1, 0)]), cancel(2), cancel(1))
        self.assertEqual(told[2:], [[0, 0], [0, 0]])

    def test_some_behind_it(self):
        before = [submit()] + [submit(tests=[(1, kind, 4095)]) for kind in (1, 2, 3)]
        self.tells(before, cancel(1), [3, 3, 2, 3, 4])

    def test_one_whose_test_is_met_stays(self):
        before = [submit(), submit(tests=[(1, 1, 4095)]), submit(tests=[(1, 0, 0)]), submit(tests=[(1, 3, 0)])]
        self.assertEqual(ask(*before, cancel(1), hold(3), hold(2), hold(4))[4:], [[2, 2, 2, 4], [0], [-6], [-6]])
        self.tells(before + [cancel(1)], tests_of(3), [0, 0])

    def test_several_steps(self):
        before = [submit(), submit(tests=[(1, 1, 0)]), submit(tests=[(2, 2, 0)]), submit(tests=[(3, 3, 0)]),
                  submit(tests=[(4, 0, 0)]), submit(tests=[(5, 1, 0)]), submit()]
        self.assertEqual(ask(*before, cancel(1), hold(5), hold(6), hold(7), cancel(5))[7:],
                         [[3, 3, 2, 3, 4], [0], [0], [0], [1, 1, 6]])

    def test_the_row_rises_whatever_the_steps(self):
        before = [submit(), submit(tests=[(1, 1, 0)]), submit(), submit(tests=[(2, 1, 0)]),
                  submit(tests=[(1, 1, 0)]), submit(tests=[(4, 1, 0)]), submit(tests=[(1, 1, 0)])]
        self.tells(before, cancel(1), [5, 5, 2, 4, 5, 6, 7])

    def test_a_chain_longer_than_python_nests(self):
        chain = [submit()] + [submit(tests=[(number, 1, 0)]) for number in range(1, 399)]
        self.tells(chain, cancel(1), [398, 398] + list(range(2, 400)))

    def test_all_tests_of_one_end_must_be_met(self):
        before = [submit(), submit(tests=[(1, 0, 0), (1, 1, 0)]), submit(tests=[(1, 1, 0), (1, 0, 0)]),
                  submit(tests=[(1, 0, 0), (1, 0, 5)])]
        self.tells(before, cancel(1), [2, 2, 2, 3])

    def test_a_flushed_job_and_the_cancelled_one_are_looked_at_together(self):
        before = [submit(), submit(tests=[(1, 1, 0)])]
        self.tells(before + [submit(tests=[(1, 0, 0), (2, 0, 0)])], cancel(1), [1, 1, 2])
        self.tells(before + [submit(tests=[(1, 0, 0), (2, 1, 0)])], cancel(1), [2, 2, 2, 3])
        self.tells(before + [submit(tests=[(2, 0, 0), (1, 1, 0)])], cancel(1), [2, 2, 2, 3])

    def test_other_tests_stay(self):
        before = [submit(), submit(), submit(tests=[(2, 1, 5), (1, 0, 0), (2, 3, 6)])]
        self.tells(before + [cancel(1)], tests_of(3), [2, 6, 2, 1, 5, 2, 3, 6])
        self.assertEqual(ask(*before, cancel(1), cancel(2))[3:], [[0, 0], [1, 1, 3]])

    def test_a_held_job_is_flushed_too(self):
        self.assertEqual(ask(submit(), submit(held=1, tests=[(1, 1, 0)]), cancel(1), letgo(2))[2:], [[1, 1, 2], [-6]])

    def test_a_held_job_whose_test_is_met_stays_held(self):
        self.assertEqual(ask(submit(), submit(held=1, tests=[(1, 0, 0)]), cancel(1), letgo(2))[2:], [[0, 0], [0]])

    def test_a_forgotten_job_is_not_flushed(self):
        told = ask(submit(), submit(tests=[(1, 1, 0)]), submit(tests=[(1, 1, 0)]), cancel(2), forget(2), cancel(1))
        self.assertEqual(told[3:], [[0, 0], [0], [1, 1, 3]])

    def test_what_an_ended_job_is(self):
        board = board_after(submit(4, 5, 1, "AB"), submit(6, 7, 1, "CD", [(1, 1, 0)]))
        for job in board.jobs.values():
            job.waited = 12
            job.passed_over = 3
            job.due_turn = 4
        answers_on(board, cancel(1))
        ended = {"held": False, "tests": [], "code": 0, "waited": 12, "passed_over": 0, "due_turn": 0}
        self.assertEqual(vars(board.jobs[1]), dict(ended, number=1, name=[65, 66], class_of=4, priority=5, state=5))
        self.assertEqual(vars(board.jobs[2]), dict(ended, number=2, name=[67, 68], class_of=6, priority=7, state=4))

    def test_refusals_of_a_call_on_a_job(self):
        self.refuses_as_job([submit()], cancel)

    def test_not_waiting(self):
        self.refuses([submit(), cancel(1)], cancel(1), -6)
        self.refuses([submit(), submit(tests=[(1, 1, 0)]), cancel(1)], cancel(2), -6)


class RunningTest(DeskCase):
    """Job 1 is running, and job 3 comes after it."""

    BEFORE = [submit(), submit(3), submit(tests=[(1, 1, 4), (2, 3, 0)]), start(1, [1]), pick(1)]

    def test_a_running_job_is_not_in_the_right_state(self):
        for call in (hold(1), letgo(1), change(1), cancel(1), forget(1)):
            self.refuses(self.BEFORE, call, -6)

    def test_ranges_go_before_the_state(self):
        self.refuses(self.BEFORE, change(1, 37, 0), -1)
        self.refuses(self.BEFORE, change(1, 1, 16), -1)

    def test_a_test_of_a_running_job_stays(self):
        self.at_last(self.BEFORE + [submit(tests=[(1, 3, 0)]), tests_of(4)], [[4], [1, 3, 1, 3, 0]])

    def test_tests_of_running_jobs_stay_at_another_end(self):
        self.at_last(self.BEFORE + [submit(tests=[(2, 0, 0), (1, 1, 4)]), cancel(2), tests_of(4), status(1)],
                     [row_told(3), [1, 3, 1, 1, 4], status_told(state=1)])

    def test_one_that_came_after_it_is_cancelled_first(self):
        self.at_last(self.BEFORE + [cancel(3), finish(1, 0, 5), status(3)], [[0, 0], [0, 0], status_told(state=5)])
