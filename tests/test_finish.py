from tests.helper import GREATEST, LEAST, NO_INITIATORS, DeskCase, after, ask, begin, cancel, class_of_number
from tests.helper import class_told, counts, drain, finish, forget, hold, initiator_of, initiator_told, letgo, pick
from tests.helper import requeue, row_told, run, running, start, status, status_told, submit, tests_of, tick

# Job 1 of class 9 runs by initiator 1, which has a list of two classes.
RUNS = [start(1, [9, 8]), submit(9, 5, 0, "FIRST"), pick(1)]


class FinishTest(DeskCase):
    def test_none_behind_it(self):
        self.at_last(RUNS + [finish(1), status(1), running(), counts(), class_of_number(9)],
                     [[0, 0], status_told("FIRST", 2, 0, 9, 5), [0, 0], [1, 3, 0, 0, 0], class_told()])

    def test_both_ends_of_abend_and_code(self):
        for abend in (0, 1):
            for code in (0, 1, 4094, 4095):
                self.at_last(RUNS + [finish(1, abend, code), status(1)],
                             [[0, 0], status_told("FIRST", 2 + abend, code, 9, 5)])

    def test_both_ends_of_the_initiators(self):
        for initiator in (1, 16):
            self.tells([start(initiator, [1]), submit(), pick(initiator)], finish(initiator), [0, 0])

    def test_out_of_range(self):
        for initiator in NO_INITIATORS:
            self.refuses(RUNS, finish(initiator), -1)
        for abend in (LEAST, -1, 2, GREATEST):
            self.refuses(RUNS, finish(1, abend), -1)
        for abend in (0, 1):
            for code in (LEAST, -1, 4096, GREATEST):
                self.refuses(RUNS, finish(1, abend, code), -1)

    def test_runs_no_job(self):
        self.refuses([submit()], finish(1), -3)
        self.refuses([submit(), start(1, [1])], finish(1), -3)
        self.refuses(RUNS, finish(2), -3)
        self.refuses(RUNS + [finish(1)], finish(1), -3)
        self.refuses(RUNS + [requeue(1)], finish(1), -3)
        self.refuses(RUNS + [drain(1), finish(1)], finish(1), -3)

    def test_ranges_go_before_the_initiator(self):
        for before in ([], [start(1, [1])]):
            self.refuses(before, finish(1, 2, 0), -1)
            self.refuses(before, finish(1, 0, 4096), -1)
            self.refuses(before, finish(1, -1, -1), -1)

    def test_a_draining_initiator_is_off_afterwards(self):
        for abend in (0, 1):
            self.at_last(RUNS + [drain(1), finish(1, abend), initiator_of(1), pick(1), start(1, [3]), initiator_of(1)],
                         [[0, 0], initiator_told(0), [-3], [0], initiator_told(1, [3])])

    def test_another_stays_on_with_its_list(self):
        for abend in (0, 1):
            self.at_last(RUNS + [finish(1, abend), initiator_of(1)], [[0, 0], initiator_told(1, [9, 8])])

    def test_its_own_job_alone(self):
        before = RUNS + [start(2, [1]), submit(), pick(2), finish(1)]
        self.at_last(before + [status(1), status(2), running(), initiator_of(2)],
                     [status_told("FIRST", 2, 0, 9, 5), status_told(state=1), [1, 2, 2, 2],
                      initiator_told(1, [1], 0, 2)])

    def test_what_stays_and_what_goes(self):
        # The job has waited 130 ticks of 60 each for a rank, and has been passed over.
        before = [start(1, [4]), submit(4, 3, 0, "AB"), submit(4, 15), tick(130)] + run(1)
        self.at_last(before + [status(1), pick(1), tick(60), status(1), finish(1, 1, 77), tick(60), status(1)],
                     [status_told("AB", 0, 0, 4, 3, 5, 0, 130, 1), [1], [190], status_told("AB", 1, 0, 4, 3, 5, 0, 130),
                      [0, 0], [250], status_told("AB", 3, 77, 4, 3, 5, 0, 130)])

    def test_an_ended_job_is_forgotten_or_refused(self):
        for abend in (0, 1):
            before = RUNS + [finish(1, abend, 3)]
            for call in (hold(1), letgo(1), [4, 1, 1, 0], cancel(1)):
                self.refuses(before, call, -6)
            self.at_last(before + [forget(1), status(1), counts()], [[0], [-4], [0, 3, 0, 0, 0]])


class TestsAtAnEndTest(DeskCase):
    def flushed(self, tests, abend, code):
        """Which of jobs 2 and further, each with the tests told, are flushed when job 1 ends so."""
        calls = RUNS + [submit(tests=row) for row in tests] + [finish(1, abend, code)]
        told = ask(*calls)[-1]
        self.assertEqual(told[0], told[1])
        return told[2:]

    def test_each_kind_by_a_code(self):
        tests = [[(1, kind, 4)] for kind in (0, 1, 2, 3)]
        for code, flushed in ((0, [4, 5]), (3, [4, 5]), (4, [4, 5]), (5, [3, 5]), (4095, [3, 5])):
            self.assertEqual(self.flushed(tests, 0, code), flushed)

    def test_each_kind_by_an_abend(self):
        tests = [[(1, kind, 4)] for kind in (0, 1, 2, 3)]
        for code in (0, 3, 4, 5, 4095):
            self.assertEqual(self.flushed(tests, 1, code), [3])

    def test_both_ends_of_n(self):
        tests = [[(1, kind, n)] for kind in (0, 1, 2, 3) for n in (0, 4095)]
        self.assertEqual(self.flushed(tests, 0, 0), [6, 7, 8, 9])
        self.assertEqual(self.flushed(tests, 0, 1), [4, 7, 8, 9])
        self.assertEqual(self.flushed(tests, 0, 4095), [4, 7, 8, 9])
        self.assertEqual(self.flushed(tests, 1, 0), [4, 5])
        self.assertEqual(self.flushed(tests, 1, 4095), [4, 5])

    def test_several_tests_of_one_job(self):
        tests = [[(1, 1, 8), (1, 2, 4)], [(1, 2, 4), (1, 1, 6)], [(1, 0, 0)] * 8, [(1, 0, 0)] * 7 + [(1, 3, 0)]]
        for code, flushed in ((4, [2, 3, 5]), (5, [5]), (6, [5]), (7, [3, 5]), (8, [3, 5]), (9, [2, 3, 5])):
            self.assertEqual(self.flushed(tests, 0, code), flushed)
        self.assertEqual(self.flushed(tests, 1, 5), [2, 3])

    def test_tests_of_several_jobs(self):
        before = RUNS + [submit(3), submit(tests=[(2, 1, 0), (1, 1, 4), (2, 3, 9)]), submit(tests=[(2, 3, 0)])]
        self.at_last(before + [finish(1, 0, 4), tests_of(3), after(1), after(2), status(3)],
                     [[0, 0], [2, 6, 2, 1, 0, 2, 3, 9], [0, 0], row_told(3, 4), status_told()])
        self.at_last(before + [finish(1, 0, 5), tests_of(3), after(1), after(2), status(3)],
                     [row_told(3), [0, 0], [0, 0], row_told(4), status_told(state=4)])

    def test_a_job_is_ready_when_its_last_test_has_gone(self):
        before = RUNS + [start(2, [3, 1]), submit(3), submit(tests=[(1, 0, 0), (2, 1, 4)]), pick(2)]
        self.at_last(before + [finish(1), counts(), finish(2, 0, 4), counts(), pick(2)],
                     [[0, 0], [3, 3, 1, 0, 1], [0, 0], [3, 3, 1, 1, 0], [3]])

    def test_a_held_job_stays_held(self):
        self.at_last(RUNS + [submit(held=1, tests=[(1, 0, 0)]), finish(1), status(2), tests_of(2)],
                     [[0, 0], status_told(held=1), [0, 0]])

    def test_flushing_in_several_steps(self):
        before = RUNS + [
            submit(tests=[(1, 3, 0)]), submit(tests=[(2, 1, 0)]), submit(tests=[(2, 0, 0)]), submit(tests=[(3, 2, 0)]),
            submit(tests=[(4, 1, 0)]), submit(tests=[(5, 3, 0), (4, 0, 0)]), submit(tests=[(1, 1, 0), (5, 0, 0)])]
        self.at_last(before + [finish(1), status(5), status(4), tests_of(6), tests_of(8), after(4), counts()],
                     [row_told(2, 3, 5, 7), status_told(state=4), status_told(), [1, 3, 4, 1, 0], [0, 0], row_told(6),
                      [8, 3, 3, 2, 0]])
        self.at_last(before + [finish(1, 1), status(2), tests_of(3), tests_of(8), status(8)],
                     [row_told(8), status_told(), [1, 3, 2, 1, 0], [0, 0], status_told(state=4)])

    def test_looked_at_together_with_one_flushed_because_of_it(self):
        before = RUNS + [submit(tests=[(1, 1, 0)])]
        for tests, flushed in (([(1, 2, 0), (2, 0, 0)], [2]), ([(1, 2, 0), (2, 1, 0)], [2, 3]),
                               ([(1, 1, 0), (2, 0, 0)], [2, 3]), ([(2, 0, 0)], [2]), ([(2, 3, 0)], [2, 3])):
            self.tells(before + [submit(tests=tests)], finish(1, 0, 1), row_told(*flushed))

    def test_a_chain_longer_than_python_nests(self):
        chain = [submit(tests=[(number, 1, 0)]) for number in range(1, 397)]
        self.tells(RUNS + chain, finish(1, 1), row_told(*range(2, 398)))

    def test_a_running_job_stays_asked_until_it_ends(self):
        before = RUNS + [submit(tests=[(1, 1, 4)])]
        self.at_last(before + [tests_of(2), after(1), requeue(1), tests_of(2), letgo(1)] + run(1) + [tests_of(2)],
                     [[1, 3, 1, 1, 4], row_told(2), [1], [1, 3, 1, 1, 4], [0], [1], [0, 0], [0, 0]])

    def test_a_later_submit_asks_the_end_too(self):
        for abend, code, told in ((0, 4, [2, -7, -7]), (0, 5, [-7, 2, -7]), (1, 0, [-7, 2, 3]), (1, 5, [-7, 2, 3])):
            before = RUNS + [finish(1, abend, code)]
            calls = [submit(tests=[(1, kind, 4)]) for kind in (1, 2, 3)]
            self.at_last(before + calls, [[number] for number in told])
            for call, answer in zip(calls, told):
                if answer == -7:
                    self.refuses(before, call, -7)

    def test_met_tests_of_an_ended_job_are_gone_at_once(self):
        before = RUNS + [finish(1, 0, 4), submit(3), submit(tests=[(2, 1, 1), (1, 1, 4), (2, 2, 2), (1, 0, 0)])]
        self.at_last(before + [tests_of(3), after(1), after(2)], [[2, 6, 2, 1, 1, 2, 2, 2], [0, 0], row_told(3)])

    def test_a_test_may_name_a_running_job(self):
        self.at_last(RUNS + [submit(tests=[(1, 3, 0)]), tests_of(2), finish(1, 1), tests_of(2)],
                     [[2], [1, 3, 1, 3, 0], [0, 0], [0, 0]])

    def test_ended_jobs_count_for_the_cap(self):
        before = [begin(2)] + RUNS + [finish(1), submit()]
        self.refuses(before, submit(), -8)
        self.tells(before + [forget(1)], submit(), [3])
