"""The refusals: the numbers below 0 that a call answers."""

NOT_REFUSED = 0
OUT_OF_RANGE = -1
BAD_FORM = -2
NO_INITIATOR = -3
NO_JOB = -4
SO_ALREADY = -5
WRONG_STATE = -6
TEST_FAILED = -7
NO_ROOM = -8
