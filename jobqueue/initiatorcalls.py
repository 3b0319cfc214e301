"""The calls on initiators: start, serve, drain, pick, peek, finish, requeue."""

from jobqueue.ending import end_job
from jobqueue.forms import counted, is_class_list, is_code, is_initiator, is_yes_or_no
from jobqueue.job import ENDED_BY_ABEND, ENDED_WITH_CODE, RUNNING, WAITING
from jobqueue.picking import chosen_job, free_jobs, pass_over
from jobqueue.refusals import BAD_FORM, NO_INITIATOR, NOT_REFUSED, OUT_OF_RANGE, SO_ALREADY


def refusal_of_list(number, classes):
    if not is_initiator(number):
        return OUT_OF_RANGE
    if not is_class_list(classes):
        return BAD_FORM
    return NOT_REFUSED


def refusal_unless_on(board, number):
    if not is_initiator(number):
        return OUT_OF_RANGE
    if not board.initiators[number].on:
        return NO_INITIATOR
    return NOT_REFUSED


def refusal_unless_idle(board, number):
    refusal = refusal_unless_on(board, number)
    if refusal != NOT_REFUSED:
        return refusal
    if board.initiators[number].runs != 0:
        return SO_ALREADY
    return NOT_REFUSED


def refusal_unless_busy(board, number):
    if not is_initiator(number):
        return OUT_OF_RANGE
    if board.initiators[number].runs == 0:
        return NO_INITIATOR
    return NOT_REFUSED


def start(board, number, classes):
    refusal = refusal_of_list(number, classes)
    if refusal != NOT_REFUSED:
        return [refusal]
    initiator = board.initiators[number]
    if initiator.on:
        return [SO_ALREADY]
    initiator.on = True
    initiator.classes = list(classes)
    initiator.draining = False
    initiator.runs = 0
    return [0]


def serve(board, number, classes):
    refusal = refusal_of_list(number, classes)
    if refusal != NOT_REFUSED:
        return [refusal]
    initiator = board.initiators[number]
    if not initiator.on:
        return [NO_INITIATOR]
    initiator.classes = list(classes)
    return [0]


def switch_off(initiator):
    initiator.on = False
    initiator.classes = []
    initiator.draining = False


def take_job_away(initiator):
    initiator.runs = 0
    if initiator.draining:
        switch_off(initiator)


def drain(board, number):
    refusal = refusal_unless_on(board, number)
    if refusal != NOT_REFUSED:
        return [refusal]
    initiator = board.initiators[number]
    if initiator.draining:
        return [SO_ALREADY]
    if initiator.runs == 0:
        switch_off(initiator)
    else:
        initiator.draining = True
    return [initiator.runs]


def run_job(initiator, job):
    job.state = RUNNING
    job.due_turn = 0
    job.passed_over = 0
    initiator.runs = job.number


def pick(board, number):
    refusal = refusal_unless_idle(board, number)
    if refusal != NOT_REFUSED:
        return [refusal]
    initiator = board.initiators[number]
    free = free_jobs(board, initiator)
    job = chosen_job(board, initiator, free)
    if job is None:
        return [0]
    pass_over(board, [other for other in free if other.number != job.number])
    run_job(initiator, job)
    return [job.number]


def peek(board, number):
    refusal = refusal_unless_idle(board, number)
    if refusal != NOT_REFUSED:
        return [refusal]
    initiator = board.initiators[number]
    job = chosen_job(board, initiator, free_jobs(board, initiator))
    return [0] if job is None else [job.number]


def finish(board, number, abend, code):
    if not is_yes_or_no(abend) or not is_code(code):
        return [OUT_OF_RANGE]
    refusal = refusal_unless_busy(board, number)
    if refusal != NOT_REFUSED:
        return [refusal]
    initiator = board.initiators[number]
    state = ENDED_BY_ABEND if abend == 1 else ENDED_WITH_CODE
    flushed = end_job(board.jobs, board.jobs[initiator.runs], state, code)
    take_job_away(initiator)
    return [len(flushed)] + counted(flushed)


def requeue(board, number):
    refusal = refusal_unless_busy(board, number)
    if refusal != NOT_REFUSED:
        return [refusal]
    initiator = board.initiators[number]
    job = board.jobs[initiator.runs]
    # A running job has no tests, isn't due and has been passed over 0 times: there is nothing to take from it.
    job.state = WAITING
    job.held = True
    take_job_away(initiator)
    return [job.number]
