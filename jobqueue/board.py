"""The object that the calls are made on: all that there is."""

from jobqueue.forms import LAST_CLASS, LAST_INITIATOR
from jobqueue.job import RUNNING


class Initiator:
    def __init__(self):
        self.on = False
        self.classes = []
        self.draining = False
        self.runs = 0


class Board:
    def __init__(self, cap, k, a):
        self.renew(cap, k, a)

    def renew(self, cap, k, a):
        self.cap = cap
        self.k = k
        self.a = a
        self.time = 0
        self.jobs = {}
        # Kept apart from the jobs: a number is not given again when its job is forgotten.
        self.last_number = 0
        # Kept apart from the jobs: one that becomes due now comes behind all that are due.
        self.last_due_turn = 0
        self.limits = {}
        self.closed = {}
        for class_of in range(1, LAST_CLASS + 1):
            self.limits[class_of] = 16
            self.closed[class_of] = False
        self.initiators = {}
        for number in range(1, LAST_INITIATOR + 1):
            self.initiators[number] = Initiator()


def all_jobs(board):
    return [board.jobs[number] for number in sorted(board.jobs)]


def running_jobs(board):
    return [job for job in all_jobs(board) if job.state == RUNNING]


def how_many_of_class(jobs, class_of):
    return len([job for job in jobs if job.class_of == class_of])
