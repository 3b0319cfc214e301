from tests.helper import GREATEST, LEAST, NO_INITIATORS, DeskCase, ask, drain, finish, initiator_of, initiator_told
from tests.helper import pick, serve, start, submit

LISTS = ([1], [36], [36, 1], [1, 2, 3, 4, 5, 6, 7, 8], [36, 35, 34, 33, 4, 3, 2, 1])
NO_LISTS = (
    [], [1, 2, 3, 4, 5, 6, 7, 8, 9], list(range(1, 37)), [1] * 400,
    [1, 1], [5, 1, 5], [1, 2, 3, 4, 5, 6, 7, 1], [1, 2, 3, 4, 5, 6, 7, 7],
    [LEAST], [-1], [0], [37], [GREATEST], [1, 0], [0, 1], [1, 37, 2], [1, 2, 3, 4, 5, 6, 7, 37])


class StartTest(DeskCase):
    def test_lists_of_classes(self):
        for classes in LISTS:
            self.at_last([start(1, classes), initiator_of(1)], [[0], initiator_told(1, classes)])

    def test_no_lists_of_classes(self):
        for classes in NO_LISTS:
            self.refuses([], start(1, classes), -2)

    def test_each_initiator_by_itself(self):
        self.assertEqual(ask(start(1, [1]), start(16, [1]), serve(15, [1]), start(2, [1])), [[0], [0], [-3], [0]])

    def test_out_of_range(self):
        for initiator in NO_INITIATORS:
            self.refuses([start(2, [4])], start(initiator, [1]), -1)

    def test_on_already(self):
        self.refuses([start(1, [4])], start(1, [5]), -5)
        self.refuses([start(16, [4])], start(16, [4]), -5)

    def test_order_of_refusals(self):
        for initiator in NO_INITIATORS:
            self.refuses([], start(initiator, []), -1)
        self.refuses([start(1, [4])], start(1, []), -2)

    def test_what_a_started_initiator_is(self):
        before = [start(3, [1]), submit(), pick(3), drain(3), finish(3)]
        self.at_last(before + [start(3, [8, 2]), initiator_of(3)], [[0], initiator_told(1, [8, 2])])


class ServeTest(DeskCase):
    def test_lists_of_classes(self):
        for classes in LISTS:
            self.at_last([start(16, [9]), serve(16, classes), initiator_of(16)], [[0], initiator_told(1, classes)])

    def test_no_lists_of_classes(self):
        for classes in NO_LISTS:
            self.refuses([start(1, [9])], serve(1, classes), -2)

    def test_out_of_range(self):
        for initiator in NO_INITIATORS:
            self.refuses([start(2, [4])], serve(initiator, [1]), -1)

    def test_off(self):
        self.refuses([], serve(1, [1]), -3)
        self.refuses([start(1, [1])], serve(2, [1]), -3)

    def test_order_of_refusals(self):
        for initiator in NO_INITIATORS:
            self.refuses([], serve(initiator, []), -1)
        self.refuses([], serve(1, []), -2)

    def test_all_else_stays(self):
        before = [start(3, [1]), start(4, [1]), submit(), pick(3), drain(3)]
        self.at_last(before + [serve(3, [8, 2]), initiator_of(3), initiator_of(4)],
                     [[0], initiator_told(1, [8, 2], 1, 1), initiator_told(1, [1])])

    def test_the_same_list_again(self):
        self.assertEqual(ask(start(1, [1]), serve(1, [1]), serve(1, [1])), [[0], [0], [0]])
