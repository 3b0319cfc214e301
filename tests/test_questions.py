from tests.helper import GREATEST, LEAST, NO_CLASSES, NO_INITIATORS, DeskCase, after, ask, begin, cancel, change
from tests.helper import class_of_number, class_told, close, counts, drain, finish, forget, hold, initiator_of
from tests.helper import initiator_told, letgo, limit, look, open_class, order, pick, requeue, row_told, run, running
from tests.helper import serve, start, status, status_told, submit, tests_of, tick

# K is 2, A is 10. By their states at last: 1 ended with a code, 2 by an abend, 3 flushed, 4 cancelled, 5 running;
# 6 held, 7 with tests, 8 both; 11 and 10 are due, in this order; 15, 16, 17 ready; 9, 12, 13, 14 are forgotten.
WORLD = [
    begin(500, 2, 10), start(1, [1]), start(2, [2, 3]), start(3, [4]),
    submit(2, 4, 0, "CODE"), submit(3, 5, 0, "ABEND"), submit(1, 6, 0, "FLUSHED", [(1, 1, 6)]),
    submit(5, 7, 0, "CANCEL"), submit(4, 8, 0, "RUNS"), tick(25),
    pick(2), finish(2, 0, 7), pick(2), finish(2, 1, 9), cancel(4), pick(3),
    submit(1, 1, 1, "HELD"), submit(1, 2, 0, "TESTS", [(5, 1, 0), (6, 0, 5)]),
    submit(1, 3, 1, "BOTH", [(5, 3, 4095), (5, 0, 0)]),
    submit(1, 14, 0, "B9"), submit(1, 0, 1, "DUE2"), submit(1, 0, 0, "DUE1"), pick(1), finish(1),
    submit(1, 15, 0, "B12"), pick(1), finish(1), hold(11), letgo(10),
    submit(1, 15, 0, "B13"), pick(1), finish(1), submit(1, 15, 0, "B14"), pick(1), finish(1), letgo(11),
    forget(9), forget(12), forget(13), forget(14),
    submit(1, 3, 0, "C15"), submit(1, 13, 0, "C16"), submit(2, 0, 0, "C17"), tick(30)]

STATUSES = {
    1: status_told("CODE", 2, 7, 2, 4, 6, 0, 25), 2: status_told("ABEND", 3, 9, 3, 5, 7, 0, 25),
    3: status_told("FLUSHED", 4, 0, 1, 6), 4: status_told("CANCEL", 5, 0, 5, 7, 9, 0, 25),
    5: status_told("RUNS", 1, 0, 4, 8, 10, 0, 25), 6: status_told("HELD", 0, 0, 1, 1, held=1),
    7: status_told("TESTS", 0, 0, 1, 2), 8: status_told("BOTH", 0, 0, 1, 3, held=1), 9: [-4],
    10: status_told("DUE2", 0, 0, 1, 0, 3, 0, 30, 2, 2), 11: status_told("DUE1", 0, 0, 1, 0, 3, 0, 30, 2, 1),
    12: [-4], 13: [-4], 14: [-4], 15: status_told("C15", 0, 0, 1, 3, 6, 0, 30),
    16: status_told("C16", 0, 0, 1, 13, 15, 0, 30), 17: status_told("C17", 0, 0, 2, 0, 3, 0, 30), 18: [-4]}


class OrderTest(DeskCase):
    def test_a_new_object(self):
        for class_of in (1, 36):
            self.only_tells([], order(class_of), [0, 0])

    def test_jobs_in_every_state(self):
        for class_of, row in ((1, [11, 10, 16, 15]), (2, [17]), (3, []), (4, []), (5, []), (36, [])):
            self.only_tells(WORLD, order(class_of), row_told(*row))

    def test_out_of_range(self):
        for class_of in NO_CLASSES:
            self.refuses(WORLD, order(class_of), -1)

    def test_by_rank_then_by_number(self):
        ranks = [submit(7, priority) for priority in (3, 9, 3, 0, 15, 9)]
        self.only_tells(ranks, order(7), row_told(5, 2, 6, 1, 3, 4))

    def test_rank_raised_by_waiting(self):
        before = [submit(1, 4, 1), submit(1, 4)]
        self.only_tells(before + [tick(59), letgo(1)], order(1), row_told(1, 2))
        self.only_tells(before + [tick(60), letgo(1)], order(1), row_told(2, 1))
        self.only_tells(before + [tick(1000), letgo(1), change(1, 1, 15)], order(1), row_told(1, 2))

    def test_whether_or_not_one_is_free(self):
        before = [submit(1), submit(1), start(1, [2, 1]), submit(2, name="A"), pick(1)]
        self.only_tells(before + [close(1), limit(1, 0)], order(1), row_told(1, 2))

    def test_due_ones_that_are_not_ready_are_left_out(self):
        self.only_tells(WORLD + [hold(11)], order(1), row_told(10, 16, 15))
        self.only_tells(WORLD + [cancel(11)], order(1), row_told(10, 16, 15))
        self.only_tells(WORLD + [change(10, 2, 0)], order(2), row_told(10, 17))


class StatusTest(DeskCase):
    def test_a_new_object(self):
        for job in (1, 999999):
            self.refuses([], status(job), -4)

    def test_jobs_in_every_state(self):
        for job, answer in STATUSES.items():
            self.only_tells(WORLD, status(job), answer)

    def test_refusals_of_a_call_on_a_job(self):
        self.refuses_as_job([submit()], status)

    def test_ends_of_name_class_and_priority(self):
        self.only_tells([submit(36, 15, 1, "Z9876543")], status(1), status_told("Z9876543", 0, 0, 36, 15, held=1))
        self.only_tells([submit(1, 0, 0, "A")], status(1), status_told())

    def test_ticks_waited(self):
        before = [submit(), submit(held=1), submit(tests=[(2, 0, 0)]), tick(7)]
        self.at_last(before + [status(1), status(2), status(3)],
                     [status_told(waited=7), status_told(held=1), status_told()])
        before += [hold(1), letgo(2), tick(50)]
        self.at_last(before + [status(1), status(2), status(3)],
                     [status_told(held=1, waited=7), status_told(waited=50), status_told()])
        before += [letgo(1), cancel(2), tick(3)]
        self.at_last(before + [status(1), status(2), status(3)],
                     [status_told(waited=10), status_told(state=5, waited=50), status_told(waited=3)])

    def test_most_ticks(self):
        before = [begin(500, 10, 1000000), submit()] + [tick(1000000)] * 100
        self.only_tells(before, status(1), status_told(rank=15, waited=100000000))

    def test_rank_just_before_and_at_a_multiple_of_a(self):
        for ticks, rank in ((1, 5), (59, 5), (60, 6), (119, 6), (120, 7), (599, 14), (600, 15), (660, 15), (9999, 15)):
            self.only_tells([submit(1, 5), tick(ticks)], status(1), status_told(priority=5, rank=rank, waited=ticks))
        for a, rank in ((1, 12), (2, 8), (7, 6), (8, 5), (1000000, 5)):
            self.only_tells([begin(500, 10, a), submit(1, 5), tick(7)], status(1),
                            status_told(priority=5, rank=rank, waited=7))

    def test_rank_in_each_state(self):
        before = [start(1, [1]), submit(1, 2), tick(120)]
        for calls, told in (([hold(1)], {"held": 1}), ([pick(1)], {"state": 1}), ([cancel(1)], {"state": 5}),
                            (run(1), {"state": 2}), ([pick(1), finish(1, 1, 5)], {"state": 3, "code": 5}),
                            ([pick(1), requeue(1)], {"held": 1})):
            self.only_tells(before + calls, status(1), status_told(priority=2, rank=4, waited=120, **told))

    def test_changed(self):
        before = [submit(1, 2), tick(120), change(1, 36, 12)]
        self.only_tells(before, status(1), status_told(class_of=36, priority=12, rank=14, waited=120))

    def test_held(self):
        self.at_last([submit(held=1), status(1), letgo(1), status(1), hold(1), status(1), cancel(1), status(1)],
                     [status_told(held=1), [0], status_told(), [0], status_told(held=1), [0, 0], status_told(state=5)])


class TestsTest(DeskCase):
    def test_a_new_object(self):
        for job in (1, 999999):
            self.refuses([], tests_of(job), -4)

    def test_jobs_in_every_state(self):
        rows = {7: [2, 6, 5, 1, 0, 6, 0, 5], 8: [2, 6, 5, 3, 4095, 5, 0, 0]}
        for job, answer in STATUSES.items():
            self.only_tells(WORLD, tests_of(job), answer if answer == [-4] else rows.get(job, [0, 0]))

    def test_refusals_of_a_call_on_a_job(self):
        self.refuses_as_job([submit()], tests_of)

    def test_in_the_order_handed_in(self):
        tests = [(2, 3, 4095), (1, 0, 0), (2, 1, 5), (1, 2, 6), (1, 0, 0), (2, 3, 1), (2, 0, 9), (1, 1, 8)]
        flat = [number for test in tests for number in test]
        self.only_tells([submit(), submit(), submit(tests=tests)], tests_of(3), [8, 24] + flat)

    def test_those_left_stay_in_order(self):
        tests = [(2, 3, 4), (1, 0, 0), (2, 1, 5), (1, 0, 6)]
        self.only_tells([submit(), submit(), submit(tests=tests), cancel(1)], tests_of(3), [2, 6, 2, 3, 4, 2, 1, 5])
        self.only_tells([submit(), cancel(1), submit(), submit(tests=tests)], tests_of(3), [2, 6, 2, 3, 4, 2, 1, 5])
        self.only_tells([submit(), submit(), submit(tests=tests), cancel(2)], tests_of(3), [0, 0])

    def test_holding_and_changing_leave_them(self):
        before = [submit(), submit(tests=[(1, 1, 2)]), hold(2), change(2, 3, 4)]
        self.only_tells(before, tests_of(2), [1, 3, 1, 1, 2])
        self.only_tells([submit(), submit(tests=[(1, 1, 2)]), cancel(2)], tests_of(2), [0, 0])


class AfterTest(DeskCase):
    def test_a_new_object(self):
        for job in (1, 999999):
            self.refuses([], after(job), -4)

    def test_jobs_in_every_state(self):
        rows = {5: row_told(7, 8), 6: row_told(7)}
        for job, answer in STATUSES.items():
            self.only_tells(WORLD, after(job), answer if answer == [-4] else rows.get(job, [0, 0]))

    def test_refusals_of_a_call_on_a_job(self):
        self.refuses_as_job([submit()], after)

    def test_each_job_once_however_many_tests_it_has(self):
        before = [submit(), submit(tests=[(1, 0, 0)] * 8), submit(tests=[(2, 0, 0)]),
                  submit(tests=[(2, 1, 1), (1, 2, 2)])]
        self.only_tells(before, after(1), row_told(2, 4))
        self.only_tells(before, after(2), row_told(3, 4))
        self.only_tells(before, after(4), row_told())

    def test_the_job_alone_is_named_not_kind_or_n(self):
        before = [submit(), submit(), submit(), submit(tests=[(1, 2, 3)])]
        self.at_last(before + [after(1), after(2), after(3)], [row_told(4), row_told(), row_told()])

    def test_ended_and_forgotten_jobs_are_gone(self):
        before = [submit(), submit(tests=[(1, 0, 0)]), submit(tests=[(1, 0, 0)])]
        self.only_tells(before + [cancel(2)], after(1), row_told(3))
        self.only_tells(before + [cancel(1)], after(1), row_told())
        self.refuses(before + [cancel(1), forget(1)], after(1), -4)


class RunningTest(DeskCase):
    def test_a_new_object(self):
        self.only_tells([], running(), [0, 0])

    def test_jobs_in_every_state(self):
        self.only_tells(WORLD, running(), [1, 2, 3, 5])

    def test_all_initiators(self):
        before = [submit(name="J" + str(number)) for number in range(16)]
        before += [start(number, [1]) for number in range(1, 17)] + [pick(number) for number in range(16, 0, -1)]
        self.only_tells(before, running(), [16, 32] + [n for i in range(1, 17) for n in (i, 17 - i)])

    def test_draining_initiators_too(self):
        before = [submit(), start(5, [1]), start(6, [1]), pick(5), drain(5), drain(6)]
        self.only_tells(before, running(), [1, 2, 5, 1])
        self.only_tells(before + [finish(5)], running(), [0, 0])

    def test_requeued_jobs_are_gone(self):
        self.only_tells([submit(), start(5, [1]), pick(5), requeue(5)], running(), [0, 0])


class CountsTest(DeskCase):
    def test_a_new_object(self):
        self.only_tells([], counts(), [0, 3, 0, 0, 0])

    def test_jobs_in_every_state(self):
        self.only_tells(WORLD, counts(), [13, 3, 8, 5, 1])

    def test_ready_is_neither_held_nor_with_tests(self):
        before = [submit(), submit(held=1), submit(tests=[(1, 0, 0)]), submit(held=1, tests=[(1, 0, 0)])]
        self.only_tells(before, counts(), [4, 3, 4, 1, 0])
        self.only_tells(before + [cancel(1)], counts(), [4, 3, 3, 1, 0])
        self.only_tells(before + [cancel(1), forget(1)], counts(), [3, 3, 3, 1, 0])

    def test_closed_classes_and_limits_do_not_count(self):
        self.only_tells([submit(), close(1), limit(1, 0)], counts(), [1, 3, 1, 1, 0])

    def test_begin_leaves_none(self):
        self.only_tells(WORLD + [begin()], counts(), [0, 3, 0, 0, 0])


class InitiatorTest(DeskCase):
    def test_a_new_object(self):
        for initiator in (1, 16):
            self.only_tells([], initiator_of(initiator), [0, 0, 2, 0, 0])

    def test_jobs_in_every_state(self):
        told = {1: initiator_told(1, [1]), 2: initiator_told(1, [2, 3]), 3: initiator_told(1, [4], 0, 5)}
        for initiator in range(1, 17):
            self.only_tells(WORLD, initiator_of(initiator), told.get(initiator, initiator_told(0)))

    def test_out_of_range(self):
        for initiator in NO_INITIATORS:
            self.refuses(WORLD, initiator_of(initiator), -1)

    def test_classes_in_the_order_of_the_list(self):
        for classes in ([36], [2, 1], [8, 7, 6, 5, 1, 2, 3, 36]):
            self.only_tells([start(16, classes)], initiator_of(16), initiator_told(1, classes))
            self.only_tells([start(16, [9]), serve(16, classes)], initiator_of(16), initiator_told(1, classes))

    def test_draining(self):
        before = [start(1, [1, 2]), submit(2), pick(1), drain(1)]
        self.only_tells(before, initiator_of(1), [1, 2, 1, 2, 2, 1, 1])
        self.only_tells(before + [finish(1)], initiator_of(1), [0, 0, 2, 0, 0])


class ClassTest(DeskCase):
    def test_a_new_object(self):
        for class_of in (1, 36):
            self.only_tells([], class_of_number(class_of), [16, 3, 0, 0, 0])

    def test_jobs_in_every_state(self):
        told = {1: class_told(waiting_of=7), 2: class_told(waiting_of=1), 4: class_told(running_of=1)}
        for class_of in range(1, 37):
            self.only_tells(WORLD, class_of_number(class_of), told.get(class_of, class_told()))

    def test_out_of_range(self):
        for class_of in NO_CLASSES:
            self.refuses(WORLD, class_of_number(class_of), -1)

    def test_limit(self):
        for n in (0, 1, 15, 16):
            self.at_last([limit(36, n), class_of_number(36), class_of_number(35)], [class_told(n), class_told()])

    def test_closed(self):
        self.at_last([close(36), class_of_number(36), class_of_number(1), open_class(36), class_of_number(36)],
                     [class_told(closed=1), class_told(), [0], class_told()])

    def test_changed_jobs_count_in_their_new_class(self):
        self.at_last([submit(1), change(1, 2, 0), class_of_number(1), class_of_number(2)],
                     [class_told(), class_told(waiting_of=1)])

    def test_running_and_waiting(self):
        before = [start(1, [1]), start(2, [1]), submit(name="A"), submit(name="B"), submit(name="C"), submit(held=1)]
        self.at_last(before + [pick(1), pick(2), limit(1, 1), class_of_number(1)],
                     [[2], class_told(1, 0, 2, 2)])
        self.at_last(before + [pick(1), pick(2), finish(1), requeue(2), class_of_number(1)],
                     [class_told(waiting_of=3)])


class LeavesTest(DeskCase):
    def test_begin_leaves_what_a_new_object_has(self):
        questions = look(WORLD)
        self.at_last(WORLD + [limit(1, 3), close(2), begin()] + questions, ask(*questions))

    def test_forget_leaves_the_others(self):
        questions = [status(job) for job in STATUSES]
        for job in (1, 2, 3, 4):
            told = ask(*WORLD, forget(job), *questions)[len(WORLD) + 1:]
            self.assertEqual(told, [[-4] if number == job else STATUSES[number] for number in STATUSES])
            self.at_last(WORLD + [forget(job), counts(), order(1), class_of_number(1), running()],
                         [[12, 3, 8, 5, 1], row_told(11, 10, 16, 15), class_told(waiting_of=7), [1, 2, 3, 5]])

    def test_jobs_that_are_not_there(self):
        for job in (9, 12, 18, 999999):
            for question in (status, tests_of, after):
                self.refuses(WORLD, question(job), -4)
        for job in (LEAST, -1, 0, 1000000, GREATEST):
            for question in (status, tests_of, after):
                self.refuses(WORLD, question(job), -1)
