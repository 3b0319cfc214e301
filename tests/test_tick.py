from jobqueue.desk import answers_on
from tests.helper import GREATEST, LEAST, DeskCase, ask, board_after, cancel, hold, letgo, submit, tick

# The time is 99000000.
LATE = [tick(1000000)] * 99


class TickTest(DeskCase):
    def test_answers_the_time(self):
        self.assertEqual(ask(tick(1), tick(5), tick(1000000)), [[1], [6], [1000006]])

    def test_out_of_range(self):
        for n in (LEAST, -1, 0, 1000001, GREATEST):
            self.refuses([submit(), tick(3)], tick(n), -1)

    def test_the_bound_of_the_time(self):
        self.tells(LATE, tick(1000000), [100000000])
        self.tells(LATE + [tick(999999)], tick(1), [100000000])
        self.refuses(LATE + [submit(), tick(1)], tick(1000000), -8)
        self.refuses(LATE + [submit(), tick(1000000)], tick(1), -8)

    def test_a_refused_tick_leaves_the_time(self):
        self.assertEqual(ask(*LATE, tick(2), tick(1000000), tick(999998), tick(1), tick(0))[99:],
                         [[99000002], [-8], [100000000], [-8], [-1]])

    def test_range_goes_before_the_bound(self):
        self.refuses(LATE + [tick(1000000)], tick(1000001), -1)
        self.refuses(LATE + [tick(1000000)], tick(0), -1)

    def test_ready_jobs_have_waited_and_others_not(self):
        board = board_after(submit(), submit(held=1), submit(tests=[(1, 0, 0)]), submit(), cancel(4), tick(7),
                            submit(), tick(20))
        board.jobs[5].state = 1
        self.assertEqual([board.jobs[number].waited for number in range(1, 6)], [27, 0, 0, 0, 20])
        answers_on(board, tick(3))
        self.assertEqual([board.jobs[number].waited for number in range(1, 6)], [30, 0, 0, 0, 20])

    def test_what_a_job_has_waited_stays(self):
        board = board_after(submit(), tick(5), hold(1), tick(50), letgo(1), tick(500))
        self.assertEqual(board.jobs[1].waited, 505)

    def test_a_job_is_ready_when_its_tests_are_gone(self):
        board = board_after(submit(), submit(tests=[(1, 0, 0)]), tick(5), cancel(1), tick(50))
        self.assertEqual((board.jobs[1].waited, board.jobs[2].waited), (5, 50))
