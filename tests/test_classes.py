from tests.helper import GREATEST, LEAST, NO_CLASSES, DeskCase, ask, class_of_number, class_told, close, limit
from tests.helper import open_class, pick, running, start, submit


class LimitTest(DeskCase):
    def test_both_ends_of_each_range(self):
        for call in (limit(1, 0), limit(36, 16), limit(1, 16), limit(36, 0)):
            self.tells([submit()], call, [0])

    def test_the_limit_is_set_for_this_class_alone(self):
        before = [limit(5, 0), limit(6, 3), limit(6, 9)]
        self.at_last(before + [class_of_number(class_of) for class_of in (4, 5, 6, 7)],
                     [class_told(n) for n in (16, 0, 9, 16)])

    def test_the_same_limit_again(self):
        self.assertEqual(ask(limit(1, 16), limit(1, 3), limit(1, 3)), [[0], [0], [0]])

    def test_answers_how_many_of_the_class_are_running(self):
        before = [submit(3, name="A"), submit(3, name="B"), submit(4, name="C")]
        before += [start(1, [3]), start(2, [3]), start(3, [4]), submit(3, name="D"), pick(1), pick(2), pick(3)]
        self.at_last(before + [limit(3, 0), limit(4, 1), limit(5, 1), running()],
                     [[2], [1], [0], [3, 6, 1, 1, 2, 2, 3, 3]])

    def test_class_out_of_range(self):
        for class_of in NO_CLASSES:
            self.refuses([submit()], limit(class_of, 5), -1)

    def test_n_out_of_range(self):
        for n in (LEAST, -1, 17, GREATEST):
            self.refuses([submit()], limit(1, n), -1)


class CloseAndOpenTest(DeskCase):
    def test_close_and_open(self):
        self.assertEqual(ask(close(1), open_class(1), close(1), close(36), open_class(36)), [[0]] * 5)
        self.at_last([close(2), close(3), open_class(3)] + [class_of_number(class_of) for class_of in (1, 2, 3)],
                     [class_told(), class_told(closed=1), class_told()])

    def test_out_of_range(self):
        for class_of in NO_CLASSES:
            self.refuses([close(2)], close(class_of), -1)
            self.refuses([close(2)], open_class(class_of), -1)

    def test_closed_already(self):
        self.refuses([close(1)], close(1), -5)
        self.refuses([close(36)], close(36), -5)

    def test_open_already(self):
        self.refuses([], open_class(1), -5)
        self.refuses([close(36), open_class(36)], open_class(36), -5)

    def test_the_class_named_alone(self):
        self.assertEqual(ask(close(7), close(8), open_class(6), open_class(7)), [[0], [0], [-5], [0]])
