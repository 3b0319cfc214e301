from tests.helper import NO_INITIATORS, DeskCase, after, begin, class_of_number, class_told, counts, drain, finish
from tests.helper import hold, initiator_of, initiator_told, letgo, pick, requeue, row_told, run, running, serve, start
from tests.helper import status, status_told, submit, tests_of, tick

RUNS = [start(1, [9, 8]), submit(9, 5, 0, "FIRST"), pick(1)]


class DrainTest(DeskCase):
    def test_without_a_job_it_is_off(self):
        self.at_last([start(1, [2, 1]), drain(1), initiator_of(1), pick(1)], [[0], initiator_told(0), [-3]])

    def test_with_a_job_it_is_draining(self):
        self.at_last(RUNS + [drain(1), initiator_of(1), status(1), running()],
                     [[1], initiator_told(1, [9, 8], 1, 1), status_told("FIRST", 1, 0, 9, 5), [1, 2, 1, 1]])

    def test_answers_the_number_of_its_own_job(self):
        before = [submit(), submit(name="B"), submit(name="C"), start(1, [1]), start(2, [1]), pick(2), pick(1)]
        self.at_last(before + [drain(1), drain(2)], [[2], [1]])

    def test_both_ends_of_the_initiators(self):
        for initiator in (1, 16):
            self.tells([start(initiator, [1])], drain(initiator), [0])

    def test_the_initiator_named_alone(self):
        before = [start(1, [1]), start(2, [2]), start(3, [3]), drain(2)]
        self.at_last(before + [initiator_of(1), initiator_of(2), initiator_of(3)],
                     [initiator_told(1, [1]), initiator_told(0), initiator_told(1, [3])])

    def test_out_of_range(self):
        for initiator in NO_INITIATORS:
            self.refuses(RUNS, drain(initiator), -1)

    def test_off(self):
        self.refuses([], drain(1), -3)
        self.refuses(RUNS, drain(2), -3)
        self.refuses([start(1, [1]), drain(1)], drain(1), -3)
        self.refuses(RUNS + [drain(1), finish(1)], drain(1), -3)
        self.refuses(RUNS + [drain(1), requeue(1)], drain(1), -3)

    def test_draining_already(self):
        self.refuses(RUNS + [drain(1)], drain(1), -5)


class RequeueTest(DeskCase):
    def test_the_job_is_waiting_and_held(self):
        self.at_last(RUNS + [requeue(1), status(1), tests_of(1), running(), counts(), class_of_number(9)],
                     [[1], status_told("FIRST", 0, 0, 9, 5, held=1), [0, 0], [0, 0], [1, 3, 1, 0, 0],
                      class_told(waiting_of=1)])

    def test_answers_the_number_of_its_own_job(self):
        before = [submit(), submit(name="B"), start(1, [1]), start(2, [1]), pick(2), pick(1)]
        self.at_last(before + [requeue(1), status(1), status(2), running()],
                     [[2], status_told(state=1), status_told("B", held=1), [1, 2, 2, 1]])

    def test_both_ends_of_the_initiators(self):
        for initiator in (1, 16):
            self.tells([start(initiator, [1]), submit(), pick(initiator)], requeue(initiator), [1])

    def test_what_it_has_waited_stays(self):
        before = [start(1, [1]), submit(1, 4), tick(125), pick(1), tick(1000), requeue(1), tick(5)]
        self.at_last(before + [status(1), letgo(1), tick(55), status(1)],
                     [status_told(priority=4, rank=6, held=1, waited=125), [0], [1185],
                      status_told(priority=4, rank=7, waited=180)])

    def test_tests_that_were_met_stay_gone(self):
        before = [start(1, [1]), submit(2), submit(tests=[(1, 0, 0)]), [5, 1], pick(1), requeue(1)]
        self.at_last(before + [tests_of(2), after(1), letgo(2), pick(1)], [[0, 0], [0, 0], [0], [2]])

    def test_those_that_come_after_it_still_do(self):
        before = RUNS + [submit(tests=[(1, 1, 4)]), requeue(1)]
        self.at_last(before + [after(1), letgo(1), pick(1), finish(1, 0, 5)], [row_told(2), [0], [1], row_told(2)])

    def test_out_of_range(self):
        for initiator in NO_INITIATORS:
            self.refuses(RUNS, requeue(initiator), -1)

    def test_runs_no_job(self):
        self.refuses([submit()], requeue(1), -3)
        self.refuses([submit(), start(1, [1])], requeue(1), -3)
        self.refuses(RUNS, requeue(2), -3)
        self.refuses(RUNS + [requeue(1)], requeue(1), -3)
        self.refuses(RUNS + [finish(1)], requeue(1), -3)
        self.refuses(RUNS + [drain(1), requeue(1)], requeue(1), -3)

    def test_a_requeued_job_is_waiting_to_other_calls(self):
        before = RUNS + [requeue(1)]
        self.refuses(before, hold(1), -5)
        self.refuses(before, [6, 1], -6)
        self.tells(before, letgo(1), [0])
        self.tells(before, [4, 1, 2, 3], [0])
        self.tells(before, [5, 1], [0, 0])

    def test_picked_again_by_another(self):
        before = RUNS + [start(2, [9]), requeue(1), letgo(1), pick(2)]
        self.at_last(before + [running(), pick(1), finish(2, 0, 3), status(1)],
                     [[1, 2, 2, 1], [0], [0, 0], status_told("FIRST", 2, 3, 9, 5)])


class TogetherTest(DeskCase):
    def test_a_draining_initiator_is_off_when_its_job_has_gone(self):
        for end, told in ((requeue, [1]), (finish, [0, 0])):
            self.at_last(RUNS + [drain(1), end(1), initiator_of(1), serve(1, [1]), start(1, [4]), initiator_of(1)],
                         [told, initiator_told(0), [-3], [0], initiator_told(1, [4])])

    def test_another_stays_on_with_its_list(self):
        for end in (requeue, finish):
            self.at_last(RUNS + [end(1), initiator_of(1), drain(1), initiator_of(1)],
                         [initiator_told(1, [9, 8]), [0], initiator_told(0)])

    def test_a_list_changed_while_a_job_runs(self):
        before = RUNS + [serve(1, [3, 2])]
        self.at_last(before + [initiator_of(1), status(1)],
                     [initiator_told(1, [3, 2], 0, 1), status_told("FIRST", 1, 0, 9, 5)])
        for end in (requeue, finish):
            self.at_last(before + [submit(9, name="X"), submit(2, name="Y"), end(1), initiator_of(1), pick(1)],
                         [initiator_told(1, [3, 2]), [3]])

    def test_a_list_changed_while_draining(self):
        before = RUNS + [drain(1), serve(1, [3])]
        self.at_last(before + [initiator_of(1), drain(1)], [initiator_told(1, [3], 1, 1), [-5]])
        for end in (requeue, finish):
            self.at_last(before + [end(1), initiator_of(1)], [initiator_told(0)])

    def test_a_draining_initiator_is_on(self):
        self.refuses(RUNS + [drain(1)], start(1, [3]), -5)

    def test_one_that_runs_a_job_is_on(self):
        self.refuses(RUNS, start(1, [3]), -5)

    def test_started_again_it_is_as_if_new(self):
        before = RUNS + [drain(1), finish(1), start(1, [1]), submit()]
        self.at_last(before + [initiator_of(1), pick(1), finish(1), initiator_of(1), drain(1), start(1, [5]),
                               initiator_of(1)],
                     [initiator_told(1, [1]), [2], [0, 0], initiator_told(1, [1]), [0], [0], initiator_told(1, [5])])

    def test_off_initiators_are_refused(self):
        before = RUNS + [drain(1), finish(1)]
        for call in (serve(1, [1]), drain(1), pick(1), [15, 1], finish(1), requeue(1)):
            self.refuses(before, call, -3)

    def test_begin_takes_the_jobs_away(self):
        before = RUNS + [drain(1), begin()]
        self.at_last(before + [initiator_of(1), running(), counts(), finish(1), start(1, [1]), initiator_of(1)],
                     [initiator_told(0), [0, 0], [0, 3, 0, 0, 0], [-3], [0], initiator_told(1, [1])])

    def test_the_last_job_leaves_it_on(self):
        self.at_last([start(1, [1]), submit(), submit()] + run(1) + run(1) + [initiator_of(1), pick(1)],
                     [initiator_told(1, [1]), [0]])
