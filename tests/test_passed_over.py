from jobqueue.desk import answers_on
from tests.helper import DeskCase, ask, begin, board_after, cancel, change, close, drain, finish, forget, hold, letgo
from tests.helper import limit, open_class, order, peek, pick, requeue, row_told, run, serve, start, status
from tests.helper import status_told, submit, tick


def names(*rest, how_many):
    return [submit(*rest, name="J" + str(number)) for number in range(how_many)]


class PassedOverTest(DeskCase):
    def passed(self, calls, expected):
        """How often each job has been passed over after the calls: {job: times}."""
        told = ask(*calls, *[status(job) for job in expected])[len(calls):]
        self.assertEqual({job: answer[-2] for job, answer in zip(expected, told)}, expected, calls)

    def places(self, calls, expected):
        """The places among those due after the calls: {job: place}."""
        told = ask(*calls, *[status(job) for job in expected])[len(calls):]
        self.assertEqual({job: answer[-1] for job, answer in zip(expected, told)}, expected, calls)


class CountTest(PassedOverTest):
    def test_every_other_job_that_was_free(self):
        before = [start(1, [2, 1]), submit(1), submit(2), submit(1), submit(2), submit(1, 15)]
        self.passed(before, {1: 0, 2: 0, 3: 0, 4: 0, 5: 0})
        self.passed(before + [pick(1)], {1: 1, 2: 0, 3: 1, 4: 1, 5: 1})
        self.passed(before + run(1) + [pick(1)], {1: 2, 2: 0, 3: 2, 4: 0, 5: 2})

    def test_no_job_that_was_not_free(self):
        before = [start(1, [1, 2, 4, 5]), start(2, [6, 5]),
                  submit(5, name="RUN"), pick(2), submit(1, name="TO"),
                  submit(1, 0, 1), submit(1, tests=[(2, 0, 0)]), submit(1), cancel(5), submit(1, tests=[(5, 0, 0)]),
                  submit(3), submit(2), close(2), submit(5, name="X"), limit(5, 1), submit(4), limit(4, 0),
                  submit(1, name="RUN"), submit(1, name="FREE")]
        self.passed(before + [pick(1)], {1: 0, 2: 0, 3: 0, 4: 0, 5: 0, 6: 1, 7: 0, 8: 0, 9: 0, 10: 0, 11: 0, 12: 1})
        self.picks(before, 1, 2)

    def test_free_as_it_was_before_the_pick(self):
        self.passed([start(1, [1]), submit(), submit(), pick(1)], {1: 0, 2: 1})
        self.passed([start(1, [1]), limit(1, 1), submit(), submit(name="B"), pick(1)], {1: 0, 2: 1})

    def test_for_the_initiator_that_picks(self):
        before = [start(1, [1]), start(2, [2, 1]), submit(1, 1), submit(2), submit(1), submit(2, name="B")]
        self.passed(before + [pick(1)], {1: 0, 2: 0, 3: 1, 4: 0})
        self.passed(before + [pick(2)], {1: 1, 2: 0, 3: 1, 4: 1})

    def test_none_when_none_is_picked_or_the_call_is_refused(self):
        before = [start(1, [1]), submit(name="A"), submit(name="B"), pick(1)]
        self.passed(before, {2: 1})
        self.passed(before + [pick(1), pick(0), pick(2), peek(1)], {2: 1})
        self.passed([start(1, [1]), submit(), submit(), peek(1), peek(1)], {1: 0, 2: 0})

    def test_a_picked_job_has_been_passed_over_no_times(self):
        before = [start(1, [1]), submit(), submit(), submit()] + run(1)
        self.at_last(before + [status(2), pick(1), status(2), finish(1), status(2)],
                     [status_told(passed=1), [2], status_told(state=1), [0, 0], status_told(state=2)])

    def test_a_requeued_job_has_been_passed_over_no_times(self):
        before = [start(1, [1]), submit(), submit(), submit()] + run(1) + [pick(1), requeue(1)]
        self.passed(before, {2: 0, 3: 2})
        self.passed(before + [letgo(2), hold(3), submit(1, 9), pick(1)], {2: 1, 3: 2})

    def test_what_a_waiting_job_counts_stays(self):
        before = [start(1, [1]), submit(), submit(), submit()] + run(1)
        for call in (hold(2), change(2, 3, 4), close(1), tick(500), limit(1, 0), serve(1, [2]), drain(1)):
            self.passed(before + [call], {2: 1, 3: 1})
        self.passed(before + [hold(2), letgo(2), pick(1)], {2: 0, 3: 2})

    def test_an_ended_job_has_been_passed_over_no_times(self):
        self.passed([start(1, [1]), submit(), submit(), submit()] + run(1) + [cancel(2)], {2: 0, 3: 1})


class BecomesDueTest(PassedOverTest):
    def with_k(self, k, times, jobs=2):
        """Job 1 and those behind it are passed over so many times, each time for a new job of a greater rank."""
        calls = [begin(500, k, 1000000), start(1, [1])] + [submit() for job in range(jobs)]
        for turn in range(times):
            calls += [submit(1, 15)] + run(1)
        return calls

    def test_just_before_at_and_above_k(self):
        for k, times, place in ((3, 2, 0), (3, 3, 1), (2, 1, 0), (2, 2, 1), (1, 1, 1), (50, 49, 0), (50, 50, 1)):
            self.at_last(self.with_k(k, times) + [status(1)], [status_told(passed=times, place=place)])

    def test_more_than_k_times(self):
        before = self.with_k(2, 2, 3)
        self.at_last(before + [order(1)], [row_told(1, 2, 3)])
        before += [pick(1), status(2), status(3), requeue(1), pick(1), status(3)]
        self.at_last(before, [[1], status_told(passed=3, place=1), status_told(passed=3, place=2), [1], [2],
                              status_told(passed=4, place=1)])

    def test_k_at_first_is_ten(self):
        before = [start(1, [1]), submit()]
        for turn in range(9):
            before += [submit(1, 15)] + run(1)
        self.at_last(before + [status(1)], [status_told(passed=9)])
        self.at_last(before + [submit(1, 15)] + run(1) + [status(1)], [status_told(passed=10, place=1)])

    def test_k_of_one(self):
        before = [begin(500, 1, 60), start(1, [1])] + names(how_many=4) + [pick(1)]
        self.places(before, {1: 0, 2: 1, 3: 2, 4: 3})
        self.at_last(before + [order(1)], [row_told(2, 3, 4)])

    def test_greatest_k(self):
        before = [begin(500, 1000, 60), start(1, [1]), submit()]
        for turn in range(99):
            before += [submit(1, 15)] + run(1)
        self.at_last(before + [status(1)], [status_told(passed=99)])

    def test_several_by_one_pick_the_lesser_number_first(self):
        before = [begin(500, 1, 60), start(1, [2, 1])]
        before += [submit(1, 0), submit(1, 15), submit(2, 0), submit(2, 15), submit(1, 7), submit(2, 3)]
        self.places(before + [pick(1)], {1: 1, 2: 2, 3: 3, 4: 0, 5: 4, 6: 5})
        self.at_last(before + [pick(1), order(1), order(2)], [row_told(1, 2, 5), row_told(3, 6)])

    def test_later_ones_come_behind_whatever_their_numbers(self):
        before = [begin(500, 1, 60), start(1, [1]), submit(1, 0, 1), submit(1, 9), submit(1, 0), submit(1, 0)]
        before += run(1) + [letgo(1)]
        self.places(before, {1: 0, 3: 1, 4: 2})
        self.places(before + [pick(1)], {1: 2, 3: 0, 4: 1})

    def test_not_all_of_one_pick_become_due(self):
        before = [begin(500, 2, 60), start(1, [1]), submit(1, 9), submit(), submit()] + run(1)
        before += [submit(1, 9), submit(), pick(1)]
        self.places(before, {2: 1, 3: 2, 4: 0, 5: 0})


class StaysDueTest(PassedOverTest):
    """K is 2; jobs 2, 3 and 4 (class 1) and 5 (class 2) are due, in this order; 1 and 6 have run."""

    DUE = [begin(500, 2, 60), start(1, [1, 2]), submit(1, 15), submit(1, 1), submit(1, 2), submit(1, 3),
           submit(2, 4)] + run(1) + [submit(1, 15)] + run(1)

    def test_how_they_lie(self):
        self.places(self.DUE, {1: 0, 2: 1, 3: 2, 4: 3, 5: 4, 6: 0})
        self.passed(self.DUE, {1: 0, 2: 2, 3: 2, 4: 2, 5: 2, 6: 0})
        self.at_last(self.DUE + [order(1), order(2)], [row_told(2, 3, 4), row_told(5)])

    def test_held_and_let_go(self):
        self.places(self.DUE + [hold(2)], {2: 1, 3: 2, 4: 3, 5: 4})
        self.at_last(self.DUE + [hold(2), order(1), status(2), pick(1), requeue(1), letgo(2), order(1), status(2)],
                     [row_told(3, 4), status_told(priority=1, held=1, passed=2, place=1), [3], [3], [0],
                      row_told(2, 4), status_told(priority=1, passed=2, place=1)])
        self.picks(self.DUE + [hold(2), letgo(2)], 1, 2)

    def test_changed(self):
        before = self.DUE + [change(2, 2, 0), change(5, 1, 15)]
        self.places(before, {2: 1, 3: 2, 4: 3, 5: 4})
        self.at_last(before + [order(1), order(2), status(2)],
                     [row_told(3, 4, 5), row_told(2), status_told(class_of=2, passed=2, place=1)])
        self.picks(before, 1, 2)
        self.picks(self.DUE + [change(2, 3, 15)], 1, 3)
        self.places(self.DUE + [change(2, 3, 15), pick(1)], {2: 1, 4: 2, 5: 3})

    def test_of_a_closed_class(self):
        before = self.DUE + [close(1)]
        self.places(before, {2: 1, 3: 2, 4: 3, 5: 4})
        self.at_last(before + [order(1)], [row_told(2, 3, 4)])
        self.picks(before, 1, 5)
        self.places(before + run(1) + [open_class(1)], {2: 1, 3: 2, 4: 3, 5: 0})
        self.passed(before + [pick(1)], {2: 2, 3: 2, 4: 2})
        self.picks(before + run(1) + [open_class(1)], 1, 2)

    def test_due_ones_are_passed_over_too(self):
        self.passed(self.DUE + [pick(1)], {2: 0, 3: 3, 4: 3, 5: 3})
        self.passed(self.DUE + run(1) + [pick(1)], {2: 0, 3: 0, 4: 4, 5: 4})
        self.places(self.DUE + run(1) + [pick(1)], {2: 0, 3: 0, 4: 1, 5: 2})

    def test_cancelled(self):
        self.places(self.DUE + [cancel(3)], {2: 1, 3: 0, 4: 2, 5: 3})
        self.places(self.DUE + [cancel(2), cancel(5), forget(2)], {3: 1, 4: 2})
        self.at_last(self.DUE + [cancel(3), status(3), order(1)],
                     [status_told(state=5, priority=2), row_told(2, 4)])

    def test_flushed(self):
        # A due job was ready, so it has no tests and no call can flush it: one is given a test by hand.
        board = board_after(*self.DUE, submit(3))
        board.jobs[3].tests = [(7, 1, 0)]
        told = answers_on(board, cancel(7) + status(3) + status(4))
        expected = [row_told(3), status_told(state=4, priority=2), status_told(priority=3, passed=2, place=2)]
        self.assertEqual(told, [number for answer in expected for number in [len(answer)] + answer])

    def test_picked_and_ended(self):
        self.places(self.DUE + [pick(1)], {2: 0, 3: 1, 4: 2, 5: 3})
        for end in (finish, lambda initiator: finish(initiator, 1, 9)):
            self.places(self.DUE + run(1, end), {2: 0, 3: 1, 4: 2, 5: 3})

    def test_requeued_is_not_due_any_more(self):
        before = self.DUE + [pick(1), requeue(1)]
        self.places(before, {2: 0, 3: 1, 4: 2, 5: 3})
        self.at_last(before + [letgo(2), order(1), status(2)], [[0], row_told(3, 4, 2), status_told(priority=1)])

    def test_requeued_becomes_due_anew_behind_the_others(self):
        before = self.DUE + [pick(1), requeue(1), letgo(2)] + run(1)
        self.passed(before, {2: 1, 4: 4, 5: 4})
        self.places(before, {2: 0, 4: 1, 5: 2})
        self.places(before + run(1), {2: 2, 5: 1})
        self.at_last(before + run(1) + run(1) + run(1), [[5], [0, 0], [2], [0, 0]])

    def test_they_are_picked_in_their_order(self):
        before = self.DUE + [submit(1, 15), submit(1, 15)]
        told = ask(*before, *[call for turn in range(6) for call in run(1)])[len(before)::2]
        self.assertEqual(told, [[2], [3], [4], [5], [7], [8]])

    def test_a_new_job_is_not_due(self):
        self.at_last(self.DUE + [submit(1, 15), status(7), order(1)],
                     [[7], status_told(priority=15), row_told(2, 3, 4, 7)])

    def test_begin_leaves_none_due(self):
        before = self.DUE + [begin(500, 2, 60), start(1, [1]), submit(), submit(1, 5)]
        self.at_last(before + [status(1), pick(1), status(1)], [status_told(), [2], status_told(passed=1)])
