from jobqueue.desk import answers_on
from tests.helper import GREATEST, LEAST, DeskCase, ask, board_after, close, limit, open_class, submit

NO_CLASSES = (LEAST, -1, 0, 37, GREATEST)


class LimitTest(DeskCase):
    def test_both_ends_of_each_range(self):
        for call in (limit(1, 0), limit(36, 16), limit(1, 16), limit(36, 0)):
            self.tells([submit()], call, [0])

    def test_the_limit_is_set_for_this_class_alone(self):
        board = board_after(limit(5, 0), limit(6, 3), limit(6, 9))
        self.assertEqual((board.limits[4], board.limits[5], board.limits[6], board.limits[7]), (16, 0, 9, 16))

    def test_the_same_limit_again(self):
        self.assertEqual(ask(limit(1, 16), limit(1, 3), limit(1, 3)), [[0], [0], [0]])

    def test_answers_how_many_of_the_class_are_running(self):
        board = board_after(*[submit(class_of) for class_of in (3, 3, 4, 3)])
        for number in (1, 3, 4):
            board.jobs[number].state = 1
        self.assertEqual(answers_on(board, limit(3, 0) + limit(4, 1) + limit(5, 1)), [1, 2, 1, 1, 1, 0])
        self.assertEqual([board.jobs[number].state for number in (1, 2, 3, 4)], [1, 0, 1, 1])

    def test_class_out_of_range(self):
        for class_of in NO_CLASSES:
            self.refuses([submit()], limit(class_of, 5), -1)

    def test_n_out_of_range(self):
        for n in (LEAST, -1, 17, GREATEST):
            self.refuses([submit()], limit(1, n), -1)


class CloseAndOpenTest(DeskCase):
    def test_close_and_open(self):
        self.assertEqual(ask(close(1), open_class(1), close(1), close(36), open_class(36)), [[0]] * 5)
        board = board_after(close(2), close(3), open_class(3))
        self.assertEqual([board.closed[number] for number in (1, 2, 3)], [False, True, False])

    def test_out_of_range(self):
        for class_of in NO_CLASSES:
            self.refuses([close(2)], close(class_of), -1)
            self.refuses([close(2)], open_class(class_of), -1)

    def test_closed_already(self):
        self.refuses([close(1)], close(1), -5)
        self.refuses([close(36)], close(36), -5)

    def test_open_already(self):
        self.refuses([], open_class(1), -5)
        self.refuses([close(36), open_class(36)], open_class(36), -5)

    def test_the_class_named_alone(self):
        self.assertEqual(ask(close(7), close(8), open_class(6), open_class(7)), [[0], [0], [-5], [0]])
