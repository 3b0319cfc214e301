from jobqueue.desk import answers_on
from tests.helper import GREATEST, LEAST, DeskCase, board_after, cancel, change, submit, tick


class ChangeTest(DeskCase):
    def test_both_ends_of_each_range(self):
        for call in (change(1, 1, 0), change(1, 36, 15)):
            self.tells([submit(5, 5)], call, [0])

    def test_the_job_has_these_and_all_else_stays(self):
        board = board_after(submit(), tick(4), submit(2, 3, 1, "B", [(1, 1, 7)]))
        job = board.jobs[2]
        job.waited = 8
        job.passed_over = 6
        job.due_turn = 5
        expected = dict(vars(job), class_of=36, priority=15)
        self.assertEqual(answers_on(board, change(2, 36, 15)), [1, 0])
        self.assertEqual(vars(board.jobs[2]), expected)
        self.assertEqual((board.jobs[1].class_of, board.jobs[1].priority), (1, 0))

    def test_class_out_of_range(self):
        for class_of in (LEAST, -1, 0, 37, GREATEST):
            self.refuses([submit(5, 5)], change(1, class_of, 0), -1)

    def test_priority_out_of_range(self):
        for priority in (LEAST, -1, 16, GREATEST):
            self.refuses([submit(5, 5)], change(1, 1, priority), -1)

    def test_refusals_of_a_call_on_a_job(self):
        self.refuses_as_job([submit()], lambda job: change(job, 7, 8))

    def test_not_waiting(self):
        self.refuses([submit(), cancel(1)], change(1, 7, 8), -6)
        self.refuses([submit(), submit(tests=[(1, 2, 0)]), cancel(1)], change(2, 7, 8), -6)

    def test_class_and_priority_go_before_the_job(self):
        for job in (1, 2):
            self.refuses([submit(), cancel(1)], change(job, 0, 0), -1)
            self.refuses([submit(), cancel(1)], change(job, 1, 16), -1)
