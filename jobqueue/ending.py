"""What happens to other jobs when a job ends."""

from jobqueue.job import FLUSHED, WAITING, has_ended, is_met


def has_failed_test(jobs, tests):
    for number, kind, n in tests:
        named = jobs[number]
        if has_ended(named) and not is_met(kind, n, named.state, named.code):
            return True
    return False


def tests_still_open(jobs, tests):
    return [test for test in tests if not has_ended(jobs[test[0]])]


def mark_ended(job, state, code):
    job.state = state
    job.code = code
    job.tests = []
    job.held = False
    job.passed_over = 0
    job.due_turn = 0


def end_job(jobs, job, state, code):
    mark_ended(job, state, code)
    flushed = []
    # One walk is enough: a job comes after lesser numbers only, so all it asks about is settled by its turn.
    # A test never outlasts the end of the job it names, so one that names an ended job names one ended just now.
    for number in sorted(jobs):
        other = jobs[number]
        if other.state != WAITING:
            continue
        if has_failed_test(jobs, other.tests):
            mark_ended(other, FLUSHED, 0)
            flushed.append(number)
        else:
            other.tests = tests_still_open(jobs, other.tests)
    return flushed
