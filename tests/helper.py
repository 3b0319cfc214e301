"""What the tests share: calls as lists of numbers, what they should answer, and the checks made of every call."""

import unittest

from jobqueue.board import Board, Initiator
from jobqueue.desk import FIRST_A, FIRST_CAP, FIRST_K, answers, answers_on
from jobqueue.job import Job

LEAST = -2 ** 63
GREATEST = 2 ** 63 - 1

NO_CLASSES = (LEAST, -1, 0, 37, GREATEST)
NO_INITIATORS = (LEAST, -1, 0, 17, GREATEST)


def begin(cap=500, k=10, a=60):
    return [0, cap, k, a]


def submit(class_of=1, priority=0, held=0, name="A", tests=()):
    """name: a text or a row of bytes; tests: rows of three, or a row of numbers as it is."""
    row = [ord(sign) for sign in name] if isinstance(name, str) else list(name)
    flat = []
    for test in tests:
        flat += list(test) if isinstance(test, tuple) else [test]
    return [1, class_of, priority, held, len(row)] + row + [len(flat)] + flat


def hold(job):
    return [2, job]


def letgo(job):
    return [3, job]


def change(job, class_of=1, priority=0):
    return [4, job, class_of, priority]


def cancel(job):
    return [5, job]


def forget(job):
    return [6, job]


def tick(n):
    return [7, n]


def limit(class_of, n):
    return [8, class_of, n]


def close(class_of):
    return [9, class_of]


def open_class(class_of):
    return [10, class_of]


def start(initiator, classes):
    return [11, initiator, len(classes)] + list(classes)


def serve(initiator, classes):
    return [12, initiator, len(classes)] + list(classes)


def drain(initiator):
    return [13, initiator]


def pick(initiator):
    return [14, initiator]


def peek(initiator):
    return [15, initiator]


def finish(initiator, abend=0, code=0):
    return [16, initiator, abend, code]


def requeue(initiator):
    return [17, initiator]


def order(class_of):
    return [18, class_of]


def status(job):
    return [19, job]


def tests_of(job):
    return [20, job]


def after(job):
    return [21, job]


def running():
    return [22]


def counts():
    return [23]


def initiator_of(initiator):
    return [24, initiator]


def class_of_number(class_of):
    return [25, class_of]


def run(initiator, end=finish):
    """Picks a job and ends it."""
    return [pick(initiator), end(initiator)]


def row_told(*numbers):
    """The answer of a call that tells how many numbers its row has as the number that is answered first."""
    return [len(numbers), len(numbers)] + list(numbers)


def status_told(name="A", state=0, code=0, class_of=1, priority=0, rank=None, held=0, waited=0, passed=0, place=0):
    """The answer of status; the rank is the priority unless it is told."""
    nine = [state, code, class_of, priority, priority if rank is None else rank, held, waited, passed, place]
    return [0, len(name)] + [ord(sign) for sign in name] + [9] + nine


def initiator_told(on, classes=(), draining=0, runs=0):
    return [on, len(classes)] + list(classes) + [2, draining, runs]


def class_told(limit_of=16, closed=0, running_of=0, waiting_of=0):
    return [limit_of, 3, closed, running_of, waiting_of]


def look(before):
    """Every question that can be asked about the object on which the calls before have been made."""
    jobs = range(1, 2 + len([call for call in before if call[0] == 1]))
    calls = [question(job) for job in jobs for question in (status, tests_of, after)]
    calls += [question(number) for number in range(1, 37) for question in (order, class_of_number)]
    calls += [initiator_of(number) for number in range(1, 17)]
    return calls + [running(), counts()]


def joined(calls):
    return [number for call in calls for number in call]


def split(told):
    """The answers, a list for each call."""
    rows = []
    place = 0
    while place < len(told):
        size = told[place]
        rows.append(told[place + 1:place + 1 + size])
        assert len(rows[-1]) == size, told
        place += 1 + size
    return rows


def ask(*calls):
    """The answers of these calls on a new object."""
    return split(answers(joined(calls)))


def picture(value):
    """All that a value holds, as plain values that stay when it changes."""
    if isinstance(value, (Board, Initiator, Job)):
        return picture(vars(value))
    if isinstance(value, dict):
        return [(key, picture(held)) for key, held in value.items()]
    if isinstance(value, (list, tuple)):
        return [picture(held) for held in value]
    return value


def new_board():
    return Board(FIRST_CAP, FIRST_K, FIRST_A)


def board_after(*calls):
    board = new_board()
    answers_on(board, joined(calls))
    return board


class DeskCase(unittest.TestCase):
    def tells(self, before, call, answer):
        """After the calls before, call answers the list answer."""
        self.assertEqual(ask(*before, call)[-1], answer, (before, call))

    def at_last(self, calls, expected):
        """The last of these calls on a new object answer the lists expected."""
        self.assertEqual(ask(*calls)[-len(expected):], expected, calls)

    def only_tells(self, before, call, answer):
        """After the calls before, call answers the list answer and has changed nothing."""
        questions = look(before)
        told = ask(*before, call, *questions)
        self.assertEqual(told[len(before)], answer, (before, call))
        self.assertEqual(told[len(before) + 1:], ask(*before, *questions)[len(before):], (before, call))
        self.only_tells_on(board_after(*before), call, answer)

    def only_tells_on(self, board, call, answer):
        earlier = picture(board)
        self.assertEqual(answers_on(board, list(call)), [len(answer)] + answer, call)
        self.assertEqual(picture(board), earlier, call)

    def refuses(self, before, call, refusal):
        """After the calls before, call answers refusal and has changed nothing."""
        self.only_tells(before, call, [refusal])

    def refuses_on(self, board, call, refusal):
        self.only_tells_on(board, call, [refusal])

    def picks(self, before, initiator, job):
        """After the calls before, peek and pick answer job; peek, and pick if job is 0, have changed nothing."""
        self.only_tells(before, peek(initiator), [job])
        if job == 0:
            self.only_tells(before, pick(initiator), [0])
        else:
            told = ask(*before, pick(initiator), initiator_of(initiator), status(job))
            self.assertEqual((told[-3], told[-2][-1], told[-1][-9]), ([job], job, 1), before)

    def refuses_as_job(self, before, call_on):
        """What every call on a job refuses; before has handed in exactly one job."""
        for number in (LEAST, -1, 0, 1000000, GREATEST):
            self.refuses(before, call_on(number), -1)
        for number in (2, 999999):
            self.refuses(before, call_on(number), -4)
