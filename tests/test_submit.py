from jobqueue.desk import answers_on
from tests.helper import GREATEST, LEAST, DeskCase, after, ask, begin, board_after, cancel, forget, hold, letgo
from tests.helper import pick, row_told, start, status, status_told, submit, tests_of

# Job 1 is cancelled, job 2 is flushed by it, job 3 waits.
ENDED = [submit(), submit(tests=[(1, 1, 4095)]), submit(), cancel(1)]


class SubmitNumbersTest(DeskCase):
    def test_numbers_are_given_in_order(self):
        self.assertEqual(ask(submit(), submit(), submit()), [[1], [2], [3]])

    def test_both_ends_of_class_priority_held(self):
        for call in (submit(class_of=1), submit(class_of=36), submit(priority=0), submit(priority=15),
                     submit(held=0), submit(held=1)):
            self.tells([], call, [1])

    def test_class_out_of_range(self):
        for class_of in (LEAST, -1, 0, 37, GREATEST):
            self.refuses([submit()], submit(class_of=class_of), -1)

    def test_priority_out_of_range(self):
        for priority in (LEAST, -1, 16, GREATEST):
            self.refuses([submit()], submit(priority=priority), -1)

    def test_held_out_of_range(self):
        for held in (LEAST, -1, 2, GREATEST):
            self.refuses([submit()], submit(held=held), -1)

    def test_held_as_told(self):
        self.assertEqual(ask(submit(held=1), hold(1), letgo(1)), [[1], [-5], [0]])
        self.assertEqual(ask(submit(held=0), letgo(1), hold(1)), [[1], [-5], [0]])

    def test_what_the_new_job_is(self):
        before = [submit(), submit(36, 15, 1, "AB9", [(1, 2, 3)])]
        self.at_last(before + [status(2), tests_of(2), after(1)],
                     [status_told("AB9", 0, 0, 36, 15, held=1), [1, 3, 1, 2, 3], row_told(2)])
        job = board_after(*before).jobs[2]
        self.assertEqual(vars(job), {
            "number": 2, "name": [65, 66, 57], "class_of": 36, "priority": 15, "held": True, "tests": [(1, 2, 3)],
            "state": 0, "code": 0, "waited": 0, "passed_over": 0, "due_turn": 0})

    def test_a_number_is_not_given_twice(self):
        told = ask(submit(), submit(), cancel(2), forget(2), submit(), cancel(1), forget(1), submit(), hold(2))
        self.assertEqual(told, [[1], [2], [0, 0], [0], [3], [0, 0], [0], [4], [-4]])

    def test_a_refused_call_uses_up_no_number(self):
        self.assertEqual(ask(submit(class_of=0), submit(name=""), submit(tests=[(1, 0, 0)]), submit()),
                         [[-1], [-2], [-4], [1]])


class SubmitNameTest(DeskCase):
    def test_lengths(self):
        for name in ("A", "Z", "ABCDEFGH", "A2345678"):
            self.tells([], submit(name=name), [1])
        for name in ("", "ABCDEFGHI", "A" * 15000):
            self.refuses([submit()], submit(name=name), -2)

    def test_first_byte(self):
        for byte in range(256):
            if 65 <= byte <= 90:
                self.tells([], submit(name=[byte]), [1])
            else:
                self.refuses([], submit(name=[byte]), -2)
                self.refuses([], submit(name=[byte, 65]), -2)

    def test_further_bytes(self):
        for byte in range(256):
            for name in ([65, byte], [65, byte, 66], [65, 66, 67, 68, 69, 70, 71, byte]):
                if 65 <= byte <= 90 or 48 <= byte <= 57:
                    self.tells([], submit(name=name), [1])
                else:
                    self.refuses([], submit(name=name), -2)

    def test_one_name_may_be_had_by_several(self):
        self.assertEqual(ask(submit(name="AB"), submit(name="AB")), [[1], [2]])


class SubmitTestsTest(DeskCase):
    def test_row_of_a_length_that_is_no_multiple_of_three(self):
        for length in (1, 2, 4, 5, 22, 23, 25, 26, 400):
            self.refuses([submit()], submit(tests=([1, 0, 0] * 134)[:length]), -2)

    def test_how_many_tests(self):
        for how_many in (0, 1, 7, 8):
            self.tells([submit()], submit(tests=[(1, 0, 0)] * how_many), [2])
        for how_many in (9, 10, 133):
            self.refuses([submit()], submit(tests=[(1, 0, 0)] * how_many), -2)

    def test_both_ends_of_kind_and_n(self):
        for kind in (0, 1, 2, 3):
            for n in (0, 4095):
                self.tells([submit()], submit(tests=[(1, kind, n)]), [2])

    def test_out_of_range(self):
        wrong = [(job, 0, 0) for job in (LEAST, -1, 0, 1000000, GREATEST)]
        wrong += [(1, kind, 0) for kind in (LEAST, -1, 4, GREATEST)]
        wrong += [(1, kind, n) for kind in range(4) for n in (LEAST, -1, 4096, GREATEST)]
        for test in wrong:
            self.refuses([submit()], submit(tests=[test]), -1)
            self.refuses([submit()], submit(tests=[(1, 0, 0), test]), -1)
            self.refuses([submit()], submit(tests=[test, (1, 0, 0)]), -1)

    def test_job_not_there(self):
        for job in (2, 3, 999999):
            self.refuses([submit()], submit(tests=[(job, 0, 0)]), -4)
            self.refuses([submit()], submit(tests=[(1, 0, 0), (job, 0, 0)]), -4)

    def test_job_that_was_forgotten(self):
        self.refuses([submit(), cancel(1), forget(1)], submit(tests=[(1, 0, 0)]), -4)

    def test_job_that_has_ended(self):
        for job in (1, 2):
            self.tells(ENDED, submit(tests=[(job, 0, 0)]), [4])
            for kind in (1, 2, 3):
                for n in (0, 4095):
                    self.refuses(ENDED, submit(tests=[(job, kind, n)]), -7)
                    self.refuses(ENDED, submit(tests=[(3, 0, 0), (job, 0, 0), (job, kind, n)]), -7)

    def test_met_tests_are_gone_and_others_stay_in_order(self):
        before = ENDED + [submit(), submit(tests=[(4, 1, 2), (1, 0, 0), (3, 2, 5), (2, 0, 9), (3, 3, 0)])]
        self.tells(before, tests_of(5), [3, 9, 4, 1, 2, 3, 2, 5, 3, 3, 0])

    def test_a_met_test_that_is_gone_flushes_nobody_later(self):
        self.assertEqual(ask(*ENDED, submit(tests=[(1, 0, 0)]), forget(1), cancel(3), letgo(4))[4:],
                         [[4], [0], [0, 0], [-5]])


class SubmitRoomTest(DeskCase):
    def test_cap_of_waiting_jobs(self):
        self.refuses([begin(2), submit(), submit(held=1)], submit(), -8)
        self.tells([begin(2), submit()], submit(), [2])

    def test_cap_of_ended_jobs(self):
        self.refuses([begin(1), submit(), cancel(1)], submit(), -8)
        self.refuses([begin(3)] + ENDED, submit(), -8)
        self.tells([begin(4)] + ENDED, submit(), [4])

    def test_cap_of_running_jobs(self):
        self.refuses([begin(1), submit(), start(1, [1]), pick(1)], submit(), -8)

    def test_forget_makes_room(self):
        self.assertEqual(ask(begin(1), submit(), cancel(1), submit(), forget(1), submit(), submit()),
                         [[0], [1], [0, 0], [-8], [0], [2], [-8]])

    def test_greatest_cap(self):
        for before in ([], [begin(500)]):
            board = board_after(*before, *[submit()] * 399)
            self.assertEqual(answers_on(board, submit() * 101)[-2:], [1, 500])
            self.refuses_on(board, submit(), -8)

    def test_last_number(self):
        board = board_after()
        board.last_number = 999998
        self.assertEqual(answers_on(board, submit()), [1, 999999])
        self.assertEqual(answers_on(board, cancel(999999) + forget(999999)), [2, 0, 0, 1, 0])
        self.refuses_on(board, submit(), -8)
        self.assertEqual((board.last_number, board.jobs), (999999, {}))


class SubmitOrderOfRefusalsTest(DeskCase):
    def test_numbers_go_before_forms(self):
        for numbers in ((0, 0, 0), (1, 16, 0), (1, 0, 2)):
            self.refuses([], submit(*numbers, name=""), -1)
            self.refuses([], submit(*numbers, tests=[1]), -1)

    def test_forms_go_before_ranges_of_tests(self):
        self.refuses([submit()], submit(name="", tests=[(0, 0, 0)]), -2)
        self.refuses([submit()], submit(tests=[0, 0, 0, 1]), -2)
        self.refuses([submit()], submit(tests=[(0, 0, 0)] * 9), -2)

    def test_ranges_of_all_tests_go_before_jobs_that_are_not_there(self):
        for wrong in ((0, 0, 0), (1, 4, 0), (1, 0, 4096)):
            self.refuses(ENDED, submit(tests=[(9, 0, 0), wrong]), -1)
            self.refuses(ENDED, submit(tests=[(1, 1, 0), wrong]), -1)
        self.refuses(ENDED, submit(tests=[(9, 4, 0)]), -1)

    def test_jobs_that_are_not_there_go_before_failed_tests(self):
        self.refuses(ENDED, submit(tests=[(1, 1, 0), (9, 0, 0)]), -4)
        self.refuses(ENDED, submit(tests=[(9, 0, 0), (1, 1, 0)]), -4)

    def test_all_go_before_the_cap(self):
        full = [begin(3)] + ENDED
        self.refuses(full, submit(class_of=0), -1)
        self.refuses(full, submit(name="1"), -2)
        self.refuses(full, submit(tests=[(0, 0, 0)]), -1)
        self.refuses(full, submit(tests=[(9, 0, 0)]), -4)
        self.refuses(full, submit(tests=[(1, 1, 0)]), -7)
        self.refuses(full, submit(tests=[(1, 0, 0)]), -8)
