"""The interface: a list of calls in, a list of their answers out."""

from jobqueue.board import Board
from jobqueue.classcalls import close_class, limit_class, open_class
from jobqueue.initiatorcalls import drain, finish, peek, pick, requeue, serve, start
from jobqueue.jobcalls import begin, cancel, change, forget, hold, letgo, submit, tick
from jobqueue.questions import tell_after, tell_class, tell_counts, tell_initiator, tell_order, tell_running
from jobqueue.questions import tell_status, tell_tests

FIRST_CAP = 500
FIRST_K = 10
FIRST_A = 60

BEGIN = 0
SUBMIT = 1
HOLD = 2
LETGO = 3
CHANGE = 4
CANCEL = 5
FORGET = 6
TICK = 7
LIMIT = 8
CLOSE = 9
OPEN = 10
START = 11
SERVE = 12
DRAIN = 13
PICK = 14
PEEK = 15
FINISH = 16
REQUEUE = 17
ORDER = 18
STATUS = 19
TESTS = 20
AFTER = 21
RUNNING = 22
COUNTS = 23
INITIATOR = 24

# By a call's number: how many whole numbers it has, and how many rows behind them.
SHAPES = {
    0: (3, 0),  # begin
    1: (3, 2),  # submit
    2: (1, 0),  # hold
    3: (1, 0),  # letgo
    4: (3, 0),  # change
    5: (1, 0),  # cancel
    6: (1, 0),  # forget
    7: (1, 0),  # tick
    8: (2, 0),  # limit
    9: (1, 0),  # close
    10: (1, 0),  # open
    11: (1, 1),  # start
    12: (1, 1),  # serve
    13: (1, 0),  # drain
    14: (1, 0),  # pick
    15: (1, 0),  # peek
    16: (3, 0),  # finish
    17: (1, 0),  # requeue
    18: (1, 0),  # order
    19: (1, 0),  # status
    20: (1, 0),  # tests
    21: (1, 0),  # after
    22: (0, 0),  # running
    23: (0, 0),  # counts
    24: (1, 0),  # initiator
    25: (1, 0),  # class
}


class Reader:
    def __init__(self, calls):
        self.calls = calls
        self.place = 0

    def is_at_end(self):
        return self.place >= len(self.calls)

    def take_number(self):
        number = self.calls[self.place]
        self.place += 1
        return number

    def take_row(self):
        how_many = self.take_number()
        row = self.calls[self.place:self.place + how_many]
        self.place += how_many
        return row


def answer_on_jobs(board, call, numbers, rows):
    if call == BEGIN:
        return begin(board, numbers[0], numbers[1], numbers[2])
    if call == SUBMIT:
        return submit(board, numbers[0], numbers[1], numbers[2], rows[0], rows[1])
    if call == HOLD:
        return hold(board, numbers[0])
    if call == LETGO:
        return letgo(board, numbers[0])
    if call == CHANGE:
        return change(board, numbers[0], numbers[1], numbers[2])
    if call == CANCEL:
        return cancel(board, numbers[0])
    if call == FORGET:
        return forget(board, numbers[0])
    return tick(board, numbers[0])


def answer_on_classes(board, call, numbers):
    if call == LIMIT:
        return limit_class(board, numbers[0], numbers[1])
    if call == CLOSE:
        return close_class(board, numbers[0])
    return open_class(board, numbers[0])


def answer_on_initiators(board, call, numbers, rows):
    if call == START:
        return start(board, numbers[0], rows[0])
    if call == SERVE:
        return serve(board, numbers[0], rows[0])
    if call == DRAIN:
        return drain(board, numbers[0])
    if call == PICK:
        return pick(board, numbers[0])
    if call == PEEK:
        return peek(board, numbers[0])
    if call == FINISH:
        return finish(board, numbers[0], numbers[1], numbers[2])
    return requeue(board, numbers[0])


def answer_question(board, call, numbers):
    if call == ORDER:
        return tell_order(board, numbers[0])
    if call == STATUS:
        return tell_status(board, numbers[0])
    if call == TESTS:
        return tell_tests(board, numbers[0])
    if call == AFTER:
        return tell_after(board, numbers[0])
    if call == RUNNING:
        return tell_running(board)
    if call == COUNTS:
        return tell_counts(board)
    if call == INITIATOR:
        return tell_initiator(board, numbers[0])
    return tell_class(board, numbers[0])


def answer_next(board, reader):
    call = reader.take_number()
    shape = SHAPES[call]
    numbers = [reader.take_number() for turn in range(shape[0])]
    rows = [reader.take_row() for turn in range(shape[1])]
    if call <= TICK:
        return answer_on_jobs(board, call, numbers, rows)
    if call <= OPEN:
        return answer_on_classes(board, call, numbers)
    if call <= REQUEUE:
        return answer_on_initiators(board, call, numbers, rows)
    return answer_question(board, call, numbers)


def answers_on(board, calls):
    reader = Reader(calls)
    told = []
    while not reader.is_at_end():
        answer = answer_next(board, reader)
        told.append(len(answer))
        told.extend(answer)
    return told


def answers(calls):
    return answers_on(Board(FIRST_CAP, FIRST_K, FIRST_A), calls)
