"""The calls on classes and initiators: limit, close, open, start, serve."""

from jobqueue.forms import is_class, is_class_list, is_initiator, is_limit
from jobqueue.job import RUNNING
from jobqueue.refusals import BAD_FORM, NO_INITIATOR, NOT_REFUSED, OUT_OF_RANGE, SO_ALREADY


def how_many_running(board, class_of):
    running = 0
    for number in list(board.jobs):
        job = board.jobs[number]
        if job.state == RUNNING and job.class_of == class_of:
            running += 1
    return running


def limit_class(board, class_of, n):
    if not is_class(class_of) or not is_limit(n):
        return [OUT_OF_RANGE]
    board.limits[class_of] = n
    return [how_many_running(board, class_of)]


def set_closed(board, class_of, closed):
    if not is_class(class_of):
        return [OUT_OF_RANGE]
    if board.closed[class_of] == closed:
        return [SO_ALREADY]
    board.closed[class_of] = closed
    return [0]


def close_class(board, class_of):
    return set_closed(board, class_of, True)


def open_class(board, class_of):
    return set_closed(board, class_of, False)


def refusal_of_list(number, classes):
    if not is_initiator(number):
        return OUT_OF_RANGE
    if not is_class_list(classes):
        return BAD_FORM
    return NOT_REFUSED


def start(board, number, classes):
    refusal = refusal_of_list(number, classes)
    if refusal != NOT_REFUSED:
        return [refusal]
    initiator = board.initiators[number]
    if initiator.on:
        return [SO_ALREADY]
    initiator.on = True
    initiator.classes = list(classes)
    initiator.draining = False
    initiator.runs = 0
    return [0]


def serve(board, number, classes):
    refusal = refusal_of_list(number, classes)
    if refusal != NOT_REFUSED:
        return [refusal]
    initiator = board.initiators[number]
    if not initiator.on:
        return [NO_INITIATOR]
    initiator.classes = list(classes)
    return [0]
