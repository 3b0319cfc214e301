"""The calls on jobs: begin, submit, hold, letgo, change, cancel, forget, tick."""

from jobqueue.ending import end_job, has_failed_test, tests_still_open
from jobqueue.forms import LAST_JOB, counted, is_a, is_cap, is_class, is_k, is_name, is_priority
from jobqueue.forms import is_row_of_tests, is_test, is_ticks, is_yes_or_no, split_tests
from jobqueue.job import CANCELLED, WAITING, Job, has_ended, is_ready
from jobqueue.refusals import BAD_FORM, NO_JOB, NO_ROOM, NOT_REFUSED, OUT_OF_RANGE, SO_ALREADY, TEST_FAILED
from jobqueue.refusals import WRONG_STATE, refusal_of_job

LAST_TIME = 100000000


def refusal_of_waiting_job(board, number):
    refusal = refusal_of_job(board, number)
    if refusal != NOT_REFUSED:
        return refusal
    if board.jobs[number].state != WAITING:
        return WRONG_STATE
    return NOT_REFUSED


def begin(board, cap, k, a):
    if not is_cap(cap) or not is_k(k) or not is_a(a):
        return [OUT_OF_RANGE]
    board.renew(cap, k, a)
    return [0]


def refusal_of_tests(board, tests):
    # A walk for each refusal: a later test's earlier refusal goes before an earlier test's later one.
    for number, kind, n in tests:
        if not is_test(number, kind, n):
            return OUT_OF_RANGE
    for number, kind, n in tests:
        if number not in board.jobs:
            return NO_JOB
    if has_failed_test(board.jobs, tests):
        return TEST_FAILED
    return NOT_REFUSED


def is_full(board):
    return len(board.jobs) >= board.cap or board.last_number >= LAST_JOB


def refusal_of_submit(board, class_of, priority, held, name, row):
    if not is_class(class_of) or not is_priority(priority) or not is_yes_or_no(held):
        return OUT_OF_RANGE
    if not is_name(name) or not is_row_of_tests(row):
        return BAD_FORM
    refusal = refusal_of_tests(board, split_tests(row))
    if refusal != NOT_REFUSED:
        return refusal
    if is_full(board):
        return NO_ROOM
    return NOT_REFUSED


def submit(board, class_of, priority, held, name, row):
    refusal = refusal_of_submit(board, class_of, priority, held, name, row)
    if refusal != NOT_REFUSED:
        return [refusal]
    tests = tests_still_open(board.jobs, split_tests(row))
    number = board.last_number + 1
    board.jobs[number] = Job(number, list(name), class_of, priority, held == 1, tests)
    board.last_number = number
    return [number]


def set_held(board, number, held):
    refusal = refusal_of_waiting_job(board, number)
    if refusal != NOT_REFUSED:
        return [refusal]
    job = board.jobs[number]
    if job.held == held:
        return [SO_ALREADY]
    job.held = held
    return [0]


def hold(board, number):
    return set_held(board, number, True)


def letgo(board, number):
    return set_held(board, number, False)


def change(board, number, class_of, priority):
    if not is_class(class_of) or not is_priority(priority):
        return [OUT_OF_RANGE]
    refusal = refusal_of_waiting_job(board, number)
    if refusal != NOT_REFUSED:
        return [refusal]
    job = board.jobs[number]
    job.class_of = class_of
    job.priority = priority
    return [0]


def cancel(board, number):
    refusal = refusal_of_waiting_job(board, number)
    if refusal != NOT_REFUSED:
        return [refusal]
    flushed = end_job(board.jobs, board.jobs[number], CANCELLED, 0)
    return [len(flushed)] + counted(flushed)


def forget(board, number):
    refusal = refusal_of_job(board, number)
    if refusal != NOT_REFUSED:
        return [refusal]
    if not has_ended(board.jobs[number]):
        return [WRONG_STATE]
    board.jobs.pop(number)
    return [0]


def tick(board, n):
    if not is_ticks(n):
        return [OUT_OF_RANGE]
    if board.time + n > LAST_TIME:
        return [NO_ROOM]
    board.time += n
    for number in list(board.jobs):
        job = board.jobs[number]
        if is_ready(job):
            job.waited += n
    return [board.time]
