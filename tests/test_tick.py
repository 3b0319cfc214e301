from tests.helper import GREATEST, LEAST, DeskCase, ask, cancel, finish, hold, letgo, pick, requeue, start, status
from tests.helper import submit, tick

# The time is 99000000.
LATE = [tick(1000000)] * 99


class TickTest(DeskCase):
    def test_answers_the_time(self):
        self.assertEqual(ask(tick(1), tick(5), tick(1000000)), [[1], [6], [1000006]])

    def test_out_of_range(self):
        for n in (LEAST, -1, 0, 1000001, GREATEST):
            self.refuses([submit(), tick(3)], tick(n), -1)

    def test_the_bound_of_the_time(self):
        self.tells(LATE, tick(1000000), [100000000])
        self.tells(LATE + [tick(999999)], tick(1), [100000000])
        self.refuses(LATE + [submit(), tick(1)], tick(1000000), -8)
        self.refuses(LATE + [submit(), tick(1000000)], tick(1), -8)

    def test_a_refused_tick_leaves_the_time(self):
        self.assertEqual(ask(*LATE, tick(2), tick(1000000), tick(999998), tick(1), tick(0))[99:],
                         [[99000002], [-8], [100000000], [-8], [-1]])

    def test_range_goes_before_the_bound(self):
        self.refuses(LATE + [tick(1000000)], tick(1000001), -1)
        self.refuses(LATE + [tick(1000000)], tick(0), -1)

    def waited(self, calls, expected):
        """The ticks that the jobs 1 and further have waited after the calls."""
        told = ask(*calls, *[status(job) for job in range(1, 1 + len(expected))])[len(calls):]
        self.assertEqual([answer[-3] for answer in told], expected)

    def test_ready_jobs_have_waited_and_others_not(self):
        before = [submit(), submit(held=1), submit(tests=[(1, 0, 0)]), submit(), cancel(4), tick(7),
                  submit(2), tick(20), start(1, [2]), pick(1)]
        self.waited(before, [27, 0, 0, 0, 20])
        self.waited(before + [tick(3)], [30, 0, 0, 0, 20])
        self.waited(before + [finish(1), tick(3)], [30, 0, 0, 0, 20])
        self.waited(before + [tick(3), requeue(1), tick(4), letgo(5), tick(5)], [39, 0, 0, 0, 25])

    def test_what_a_job_has_waited_stays(self):
        self.waited([submit(), tick(5), hold(1), tick(50), letgo(1), tick(500)], [505])

    def test_a_job_is_ready_when_its_tests_are_gone(self):
        self.waited([submit(), submit(tests=[(1, 0, 0)]), tick(5), cancel(1), tick(50)], [5, 50])

    def test_jobs_of_closed_classes_wait_too(self):
        self.waited([submit(), [9, 1], [8, 1, 0], tick(5)], [5])
