from tests.helper import NO_INITIATORS, DeskCase, begin, cancel, change, close, drain, finish, hold, initiator_of
from tests.helper import initiator_told, letgo, limit, open_class, order, peek, pick, requeue, row_told, run, running
from tests.helper import serve, start, status, status_told, submit, tick

ON = [start(1, [1, 2])]


class PickTest(DeskCase):
    def test_a_picked_job_runs(self):
        self.at_last(ON + [submit(2, 5, 0, "AB"), pick(1), status(1), running(), initiator_of(1)],
                     [[1], status_told("AB", 1, 0, 2, 5), [1, 2, 1, 1], initiator_told(1, [1, 2], 0, 1)])

    def test_peek_tells_it_and_changes_nothing(self):
        self.only_tells(ON + [submit(), submit()], peek(1), [1])
        self.at_last(ON + [submit(), peek(1), peek(1), pick(1)], [[1], [1], [1]])

    def test_both_ends_of_the_initiators(self):
        for initiator in (1, 16):
            self.picks([submit(), start(initiator, [1])], initiator, 1)

    def test_no_job(self):
        self.picks(ON, 1, 0)

    def test_out_of_range(self):
        for initiator in NO_INITIATORS:
            self.refuses(ON + [submit()], pick(initiator), -1)
            self.refuses(ON + [submit()], peek(initiator), -1)

    def test_off(self):
        for call_on in (pick, peek):
            self.refuses([submit()], call_on(1), -3)
            self.refuses(ON + [submit()], call_on(2), -3)
            self.refuses(ON + [submit(), drain(1)], call_on(1), -3)
            self.refuses(ON + [submit(), submit(), pick(1), drain(1), finish(1)], call_on(1), -3)

    def test_runs_a_job(self):
        for call_on in (pick, peek):
            self.refuses(ON + [submit(), submit(name="B"), pick(1)], call_on(1), -5)
            self.refuses(ON + [submit(), pick(1)], call_on(1), -5)
            self.refuses(ON + [submit(), submit(name="B"), pick(1), drain(1)], call_on(1), -5)

    def test_one_job_after_another(self):
        self.at_last(ON + [submit(), submit(), pick(1), finish(1), pick(1), requeue(1), pick(1)],
                     [[1], [0, 0], [2], [2], [0]])

    def test_several_initiators(self):
        before = [start(number, [1]) for number in (3, 1, 2)] + [submit(name=name) for name in "ABC"]
        self.at_last(before + [pick(2), pick(3), pick(1), running()], [[1], [2], [3], [3, 6, 1, 3, 2, 1, 3, 2]])


class NotFreeTest(DeskCase):
    """Job 1 would be picked by initiator 1, but for the reason told."""

    def test_held(self):
        self.picks(ON + [submit(held=1)], 1, 0)
        self.picks(ON + [submit(), hold(1)], 1, 0)
        self.picks(ON + [submit(), hold(1), submit()], 1, 2)
        self.picks(ON + [submit(held=1), letgo(1)], 1, 1)

    def test_with_tests(self):
        self.picks(ON + [submit(9), submit(tests=[(1, 0, 0)])], 1, 0)
        self.picks(ON + [submit(9), submit(tests=[(1, 0, 0)]), submit()], 1, 3)
        self.picks(ON + [submit(9), submit(tests=[(1, 0, 0)]), cancel(1)], 1, 2)
        self.picks(ON + [submit(9), submit(9), submit(tests=[(1, 0, 0), (2, 0, 0)]), cancel(1)], 1, 0)

    def test_held_and_with_tests(self):
        before = ON + [submit(9), submit(held=1, tests=[(1, 0, 0)])]
        self.picks(before + [cancel(1)], 1, 0)
        self.picks(before + [letgo(2)], 1, 0)
        self.picks(before + [letgo(2), cancel(1)], 1, 2)

    def test_running(self):
        self.picks(ON + [submit(), start(2, [1]), pick(2)], 1, 0)
        self.picks(ON + [submit(), start(2, [1]), pick(2), submit(name="B")], 1, 2)

    def test_ended(self):
        self.picks(ON + [submit(), cancel(1)], 1, 0)
        self.picks(ON + [submit(), submit(tests=[(1, 1, 0)]), cancel(1)], 1, 0)
        for abend in (0, 1):
            self.picks(ON + [submit(), pick(1), finish(1, abend)], 1, 0)
            self.picks(ON + [submit(), pick(1), finish(1, abend), submit()], 1, 2)

    def test_requeued(self):
        self.picks(ON + [submit(), pick(1), requeue(1)], 1, 0)
        self.picks(ON + [submit(), pick(1), requeue(1), letgo(1)], 1, 1)

    def test_class_not_in_the_list(self):
        for class_of in (3, 12, 36):
            self.picks(ON + [submit(class_of)], 1, 0)
        self.picks(ON + [submit(3), submit(2)], 1, 2)
        self.picks(ON + [submit(3), serve(1, [3])], 1, 1)
        self.picks(ON + [submit(1), serve(1, [3])], 1, 0)
        self.picks(ON + [submit(1), change(1, 3)], 1, 0)

    def test_class_closed(self):
        self.picks(ON + [submit(), close(1)], 1, 0)
        self.picks(ON + [submit(), submit(2), close(1)], 1, 2)
        self.picks(ON + [submit(), close(1), open_class(1)], 1, 1)

    def test_limit_of_none(self):
        self.picks(ON + [submit(), limit(1, 0)], 1, 0)
        self.picks(ON + [submit(), submit(2), limit(1, 0)], 1, 2)
        self.picks(ON + [submit(), limit(1, 0), limit(1, 1)], 1, 1)

    def test_limit_reached(self):
        before = ON + [start(2, [1]), start(3, [1]), submit(name="A"), submit(name="B"), submit(name="C"), pick(2)]
        self.picks(before + [limit(1, 1)], 1, 0)
        self.picks(before + [limit(1, 2)], 1, 2)
        self.picks(before + [pick(3), limit(1, 2)], 1, 0)
        self.picks(before + [pick(3), limit(1, 3)], 1, 3)
        self.picks(before + [limit(1, 1), finish(2)], 1, 2)
        self.picks(before + [limit(1, 1), requeue(2)], 1, 2)

    def test_limit_below_what_runs(self):
        before = ON + [start(2, [1]), start(3, [1]), submit(name="A"), submit(name="B"), submit(name="C"),
                       submit(2, name="D"), pick(2), pick(3), limit(1, 1)]
        self.picks(before, 1, 4)
        self.picks(before + [cancel(4)], 1, 0)
        self.picks(before + [cancel(4), finish(2)], 1, 0)
        self.picks(before + [cancel(4), finish(2), finish(3)], 1, 3)

    def test_limit_counts_its_own_class_alone(self):
        before = ON + [start(2, [2]), submit(2, name="A"), submit(1, name="B"), pick(2), limit(1, 1)]
        self.picks(before, 1, 2)

    def test_greatest_limit(self):
        before = [start(number, [1]) for number in range(1, 17)]
        before += [submit(name="J" + str(number)) for number in range(1, 17)]
        before += [pick(number) for number in range(2, 17)]
        self.picks(before, 1, 16)
        self.picks(before + [limit(1, 15)], 1, 0)

    def test_a_running_job_of_its_name(self):
        before = ON + [start(2, [3]), submit(3, name="A1"), pick(2), submit(name="A1")]
        self.picks(before, 1, 0)
        self.picks(before + [submit(name="A")], 1, 3)
        self.picks(before + [submit(name="A12")], 1, 3)
        self.picks(before + [submit(name="B1")], 1, 3)
        self.picks(before + [finish(2)], 1, 2)
        self.picks(before + [requeue(2)], 1, 2)

    def test_a_job_of_its_name_that_does_not_run(self):
        self.picks(ON + [submit(held=1), submit()], 1, 2)
        self.picks(ON + [submit(), cancel(1), submit()], 1, 2)


class WhichOneTest(DeskCase):
    def test_the_lists_first_class_goes_before_a_greater_rank(self):
        before = [submit(1, 15), submit(2, 0), submit(3, 7)]
        for classes, job in (([1, 2], 1), ([2, 1], 2), ([3, 1, 2], 3), ([36, 2, 3, 1], 2)):
            self.picks(before + [start(1, classes)], 1, job)

    def test_the_first_class_of_which_one_is_free(self):
        before = [start(1, [2, 1, 3]), submit(1, 0), submit(2, 0), submit(3, 15)]
        self.picks(before, 1, 2)
        for call in (hold(2), close(2), limit(2, 0), cancel(2)):
            self.picks(before + [call], 1, 1)

    def test_greater_rank_before_lesser_number(self):
        self.picks(ON + [submit(1, 3), submit(1, 5), submit(1, 4)], 1, 2)
        self.picks(ON + [submit(1, 0), submit(1, 0), submit(1, 1)], 1, 3)
        self.picks(ON + [submit(1, 3), submit(1, 5), change(1, 1, 6)], 1, 1)

    def test_lesser_number_at_the_same_rank(self):
        self.picks(ON + [submit(1, 5), submit(1, 5), submit(1, 5)], 1, 1)
        self.picks(ON + [submit(1, 4), submit(1, 5), submit(1, 5)], 1, 2)

    def waited(self, ticks, first, second):
        """Job 2 has waited so many ticks, job 1 none; their priorities are told."""
        return ON + [submit(1, first, 1), submit(1, second), tick(ticks), letgo(1)]

    def test_rank_raised_by_waiting(self):
        for ticks, first, job in ((6, 4, 1), (7, 4, 2), (7, 5, 1), (13, 5, 1), (14, 5, 2), (20, 6, 1), (21, 6, 2)):
            self.picks([begin(500, 10, 7)] + self.waited(ticks, first, 4), 1, job)
        for ticks, job in ((59, 1), (60, 2)):
            self.picks(self.waited(ticks, 4, 4), 1, job)

    def test_rank_at_both_ends_of_a(self):
        self.picks([begin(500, 10, 1)] + self.waited(1, 4, 4), 1, 2)
        for ticks, job in ((999999, 1), (1000000, 2)):
            self.picks([begin(500, 10, 1000000)] + self.waited(ticks, 4, 4), 1, job)

    def test_rank_is_fifteen_at_most(self):
        for ticks, second in ((1000, 15), (1000, 0), (7, 15), (7, 14)):
            self.picks([begin(500, 10, 7)] + self.waited(ticks, 15, second), 1, 1)
        for ticks, job in ((104, 1), (105, 2)):
            self.picks([begin(500, 10, 7)] + self.waited(ticks, 14, 0), 1, job)

    def test_ticks_add_up_while_ready_alone(self):
        before = [begin(500, 10, 10)] + ON + [submit(1, 4, 1), submit(1, 4), tick(9), hold(2), tick(500), letgo(2)]
        self.picks(before + [letgo(1)], 1, 1)
        self.picks(before + [tick(1), letgo(1)], 1, 2)


class DueTest(DeskCase):
    """K is 1, so each free job that isn't picked is due at once."""

    def due(self):
        # Jobs 2 (class 1, rank 0) and 4 (class 2) are due, in this order; 5 and 6 are not.
        return [begin(500, 1, 60), start(1, [1, 2])] + [
            submit(1, 15), submit(1, 0), submit(3, 15), submit(2, 9)] + run(1) + [
            submit(1, 15), submit(2, 15)]

    def test_before_all_others_whatever_class_and_rank(self):
        self.picks(self.due(), 1, 2)
        self.picks(self.due() + [hold(2)], 1, 4)
        self.picks(self.due() + [hold(2), hold(4)], 1, 5)
        self.picks(self.due() + [close(1)], 1, 4)
        self.picks(self.due() + [close(1), hold(4)], 1, 6)

    def test_the_one_that_became_due_first(self):
        self.picks(self.due() + [change(2, 2, 0), change(4, 1, 15)], 1, 2)
        self.picks(self.due() + [hold(2), pick(1), requeue(1), letgo(2), letgo(4)], 1, 2)

    def test_due_first_goes_before_a_lesser_number(self):
        # Job 1 is let go late, so it becomes due behind 3.
        before = [begin(500, 1, 60), start(1, [1]), submit(1, 0, 1), submit(1, 9), submit(1, 3)] + run(1)
        before += [letgo(1), submit(1, 9), hold(3)] + run(1) + [letgo(3)]
        self.picks(before, 1, 3)
        self.at_last(before + [order(1)], [row_told(3, 1)])

    def test_a_due_job_that_is_not_free_is_not_picked(self):
        self.picks(self.due() + [serve(1, [2])], 1, 4)
        self.picks(self.due() + [serve(1, [3])], 1, 3)
        self.picks(self.due() + [limit(1, 0), limit(2, 0)], 1, 0)
