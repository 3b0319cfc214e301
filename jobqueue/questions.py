"""The questions: order, status, tests, after, running, counts, initiator, class. None of them changes anything."""

from jobqueue.board import all_jobs, how_many_of_class, running_jobs
from jobqueue.forms import counted, is_class, is_initiator
from jobqueue.job import WAITING, is_due, is_ready, rank_of
from jobqueue.refusals import NOT_REFUSED, OUT_OF_RANGE, refusal_of_job


def waiting_jobs(board):
    return [job for job in all_jobs(board) if job.state == WAITING]


def ready_jobs(board):
    return [job for job in all_jobs(board) if is_ready(job)]


def tell_order(board, class_of):
    if not is_class(class_of):
        return [OUT_OF_RANGE]
    ready = [job for job in ready_jobs(board) if job.class_of == class_of]
    due = sorted([job for job in ready if is_due(job)], key=lambda job: job.due_turn)
    others = sorted([job for job in ready if not is_due(job)], key=lambda job: (-rank_of(job, board.a), job.number))
    return [len(ready)] + counted([job.number for job in due + others])


def place_among_due(board, job):
    if not is_due(job):
        return 0
    return len([other for other in all_jobs(board) if is_due(other) and other.due_turn <= job.due_turn])


def tell_status(board, number):
    refusal = refusal_of_job(board, number)
    if refusal != NOT_REFUSED:
        return [refusal]
    job = board.jobs[number]
    nine = [
        job.state, job.code, job.class_of, job.priority, rank_of(job, board.a), int(job.held), job.waited,
        job.passed_over, place_among_due(board, job)]
    return [0] + counted(job.name) + counted(nine)


def tell_tests(board, number):
    refusal = refusal_of_job(board, number)
    if refusal != NOT_REFUSED:
        return [refusal]
    tests = board.jobs[number].tests
    row = []
    for test in tests:
        row.extend(test)
    return [len(tests)] + counted(row)


def names_job(tests, number):
    return any([test[0] == number for test in tests])


def tell_after(board, number):
    refusal = refusal_of_job(board, number)
    if refusal != NOT_REFUSED:
        return [refusal]
    row = [job.number for job in all_jobs(board) if names_job(job.tests, number)]
    return [len(row)] + counted(row)


def tell_running(board):
    row = []
    for number in sorted(board.initiators):
        job_number = board.initiators[number].runs
        if job_number != 0:
            row.extend([number, job_number])
    return [len(row) // 2] + counted(row)


def tell_counts(board):
    return [len(board.jobs)] + counted([len(waiting_jobs(board)), len(ready_jobs(board)), len(running_jobs(board))])


def tell_initiator(board, number):
    if not is_initiator(number):
        return [OUT_OF_RANGE]
    initiator = board.initiators[number]
    return [int(initiator.on)] + counted(initiator.classes) + counted([int(initiator.draining), initiator.runs])


def tell_class(board, class_of):
    if not is_class(class_of):
        return [OUT_OF_RANGE]
    running = how_many_of_class(running_jobs(board), class_of)
    waiting = how_many_of_class(waiting_jobs(board), class_of)
    return [board.limits[class_of]] + counted([int(board.closed[class_of]), running, waiting])
