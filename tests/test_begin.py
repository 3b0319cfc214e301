from tests.helper import GREATEST, LEAST, DeskCase, ask, begin, board_after, cancel, close, hold, limit
from tests.helper import new_board, open_class, picture, serve, start, submit, tick


class BeginTest(DeskCase):
    def test_answers_zero(self):
        self.assertEqual(ask(begin(7, 3, 9)), [[0]])

    def test_both_ends_of_each_range(self):
        for call in (begin(1, 1, 1), begin(500, 1000, 1000000)):
            self.tells([], call, [0])

    def test_cap_out_of_range(self):
        for cap in (LEAST, -1, 0, 501, GREATEST):
            self.refuses([submit()], begin(cap, 10, 60), -1)

    def test_k_out_of_range(self):
        for k in (LEAST, -1, 0, 1001, GREATEST):
            self.refuses([submit()], begin(500, k, 60), -1)

    def test_a_out_of_range(self):
        for a in (LEAST, -1, 0, 1000001, GREATEST):
            self.refuses([submit()], begin(500, 10, a), -1)

    def test_jobs_are_gone_and_numbers_begin_with_one(self):
        told = ask(submit(), submit(), begin(), hold(1), submit(), hold(1), hold(2))
        self.assertEqual(told, [[1], [2], [0], [-4], [1], [0], [-4]])

    def test_time_is_zero(self):
        self.assertEqual(ask(tick(5), begin(), tick(7)), [[5], [0], [7]])

    def test_classes_are_open(self):
        self.assertEqual(ask(close(4), begin(), open_class(4), close(4)), [[0], [0], [-5], [0]])

    def test_initiators_are_off(self):
        self.assertEqual(ask(start(3, [1]), begin(), serve(3, [1]), start(3, [1])), [[0], [0], [-3], [0]])

    def test_new_cap_holds(self):
        self.assertEqual(ask(begin(1), submit(), submit()), [[0], [1], [-8]])
        self.assertEqual(ask(begin(1), submit(), begin(2), submit(), submit(), submit()),
                         [[0], [1], [0], [1], [2], [-8]])

    def test_refused_begin_leaves_all_as_it_was(self):
        told = ask(begin(2), submit(), tick(5), close(1), start(1, [1]), begin(0), tick(1), close(1),
                   start(1, [1]), hold(1), submit(), submit())
        self.assertEqual(told[5:], [[-1], [6], [-5], [-5], [0], [2], [-8]])

    def test_all_is_as_in_a_new_object_but_for_the_three_numbers(self):
        board = board_after(submit(), submit(tests=[(1, 1, 0)]), cancel(1), tick(9), limit(2, 3), close(5),
                            start(1, [7]), begin(8, 9, 11))
        fresh = new_board()
        fresh.cap = 8
        fresh.k = 9
        fresh.a = 11
        self.assertEqual(picture(board), picture(fresh))

    def test_what_is_there_without_begin(self):
        board = board_after()
        self.assertEqual((board.cap, board.k, board.a, board.time), (500, 10, 60, 0))
        self.assertEqual(board.jobs, {})
        self.assertEqual(board.limits, {number: 16 for number in range(1, 37)})
        self.assertEqual(board.closed, {number: False for number in range(1, 37)})
        self.assertEqual(list(board.initiators), list(range(1, 17)))
        for initiator in board.initiators.values():
            self.assertEqual(vars(initiator), {"on": False, "classes": [], "draining": False, "runs": 0})
