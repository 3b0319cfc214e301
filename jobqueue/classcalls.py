"""The calls on classes: limit, close, open."""

from jobqueue.board import how_many_of_class, running_jobs
from jobqueue.forms import is_class, is_limit
from jobqueue.refusals import OUT_OF_RANGE, SO_ALREADY


def limit_class(board, class_of, n):
    if not is_class(class_of) or not is_limit(n):
        return [OUT_OF_RANGE]
    board.limits[class_of] = n
    return [how_many_of_class(running_jobs(board), class_of)]


def set_closed(board, class_of, closed):
    if not is_class(class_of):
        return [OUT_OF_RANGE]
    if board.closed[class_of] == closed:
        return [SO_ALREADY]
    board.closed[class_of] = closed
    return [0]


def close_class(board, class_of):
    return set_closed(board, class_of, True)


def open_class(board, class_of):
    return set_closed(board, class_of, False)
