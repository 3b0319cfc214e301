"""A job, its states, and which ends meet which tests."""

WAITING = 0
RUNNING = 1
ENDED_WITH_CODE = 2
ENDED_BY_ABEND = 3
FLUSHED = 4
CANCELLED = 5

AFTER_ANY_END = 0
AFTER_CODE_AT_MOST = 1
AFTER_CODE_ABOVE_OR_ABEND = 2
AFTER_ABEND = 3

GREATEST_RANK = 15


class Job:
    def __init__(self, number, name, class_of, priority, held, tests):
        self.number = number
        self.name = name
        self.class_of = class_of
        self.priority = priority
        self.held = held
        self.tests = tests
        self.state = WAITING
        self.code = 0
        self.waited = 0
        self.passed_over = 0
        # 0 if it isn't due; else a number that is the lesser the sooner it became due.
        self.due_turn = 0


def has_ended(job):
    return job.state != WAITING and job.state != RUNNING


def is_ready(job):
    return job.state == WAITING and not job.held and len(job.tests) == 0


def is_due(job):
    return job.due_turn != 0


def rank_of(job, a):
    return min(job.priority + job.waited // a, GREATEST_RANK)


def is_met(kind, n, state, code):
    if kind == AFTER_ANY_END:
        return True
    if kind == AFTER_CODE_AT_MOST:
        return state == ENDED_WITH_CODE and code <= n
    if kind == AFTER_CODE_ABOVE_OR_ABEND:
        return state == ENDED_BY_ABEND or (state == ENDED_WITH_CODE and code > n)
    return kind == AFTER_ABEND and state == ENDED_BY_ABEND
