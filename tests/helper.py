"""What the tests share: calls as lists of numbers, and the two checks made of every call."""

import unittest

from jobqueue.board import Board, Initiator
from jobqueue.desk import answers, answers_on
from jobqueue.job import Job

LEAST = -2 ** 63
GREATEST = 2 ** 63 - 1


def begin(cap=500, k=10, a=60):
    return [0, cap, k, a]


def submit(class_of=1, priority=0, held=0, name="A", tests=()):
    """name: a text or a row of bytes; tests: rows of three, or a row of numbers as it is."""
    row = [ord(sign) for sign in name] if isinstance(name, str) else list(name)
    flat = []
    for test in tests:
        flat += list(test) if isinstance(test, tuple) else [test]
    return [1, class_of, priority, held, len(row)] + row + [len(flat)] + flat


def hold(job):
    return [2, job]


def letgo(job):
    return [3, job]


def change(job, class_of=1, priority=0):
    return [4, job, class_of, priority]


def cancel(job):
    return [5, job]


def forget(job):
    return [6, job]


def tick(n):
    return [7, n]


def limit(class_of, n):
    return [8, class_of, n]


def close(class_of):
    return [9, class_of]


def open_class(class_of):
    return [10, class_of]


def start(initiator, classes):
    return [11, initiator, len(classes)] + list(classes)


def serve(initiator, classes):
    return [12, initiator, len(classes)] + list(classes)


def joined(calls):
    return [number for call in calls for number in call]


def split(told):
    """The answers, a list for each call."""
    rows = []
    place = 0
    while place < len(told):
        size = told[place]
        rows.append(told[place + 1:place + 1 + size])
        assert len(rows[-1]) == size, told
        place += 1 + size
    return rows


def ask(*calls):
    """The answers of these calls on a new object."""
    return split(answers(joined(calls)))


def picture(value):
    """All that a value holds, as plain values that stay when it changes."""
    if isinstance(value, (Board, Initiator, Job)):
        return picture(vars(value))
    if isinstance(value, dict):
        return [(key, picture(held)) for key, held in value.items()]
    if isinstance(value, (list, tuple)):
        return [picture(held) for held in value]
    return value


def new_board():
    return Board(500, 10, 60)


def board_after(*calls):
    board = new_board()
    answers_on(board, joined(calls))
    return board


class DeskCase(unittest.TestCase):
    def tells(self, before, call, answer):
        """After the calls before, call answers the list answer."""
        self.assertEqual(ask(*before, call)[-1], answer, (before, call))

    def refuses(self, before, call, refusal):
        """After the calls before, call answers refusal and has changed nothing."""
        self.tells(before, call, [refusal])
        self.refuses_on(board_after(*before), call, refusal)

    def refuses_on(self, board, call, refusal):
        earlier = picture(board)
        self.assertEqual(answers_on(board, list(call)), [1, refusal], call)
        self.assertEqual(picture(board), earlier, call)

    def refuses_as_job(self, before, call_on):
        """What every call on a job refuses; before has handed in exactly one job."""
        for number in (LEAST, -1, 0, 1000000, GREATEST):
            self.refuses(before, call_on(number), -1)
        for number in (2, 999999):
            self.refuses(before, call_on(number), -4)
