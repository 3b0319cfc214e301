"""The object that the calls are made on: all that there is."""

from jobqueue.forms import LAST_CLASS, LAST_INITIATOR


class Initiator:
    def __init__(self):
        self.on = False
        self.classes = []
        self.draining = False
        self.runs = 0


class Board:
    def __init__(self, cap, k, a):
        self.renew(cap, k, a)

    def renew(self, cap, k, a):
        self.cap = cap
        self.k = k
        self.a = a
        self.time = 0
        self.jobs = {}
        # Kept apart from the jobs: a number is not given again when its job is forgotten.
        self.last_number = 0
        self.limits = {}
        self.closed = {}
        for class_of in range(1, LAST_CLASS + 1):
            self.limits[class_of] = 16
            self.closed[class_of] = False
        self.initiators = {}
        for number in range(1, LAST_INITIATOR + 1):
            self.initiators[number] = Initiator()
