"""The refusals: the numbers below 0 that a call answers."""

from jobqueue.forms import is_job_number

NOT_REFUSED = 0
OUT_OF_RANGE = -1
BAD_FORM = -2
NO_INITIATOR = -3
NO_JOB = -4
SO_ALREADY = -5
WRONG_STATE = -6
TEST_FAILED = -7
NO_ROOM = -8


def refusal_of_job(board, number):
    if not is_job_number(number):
        return OUT_OF_RANGE
    if number not in board.jobs:
        return NO_JOB
    return NOT_REFUSED
