"""Which job an initiator picks, and which are passed over."""

from jobqueue.board import all_jobs, how_many_of_class, running_jobs
from jobqueue.job import is_due, is_ready, rank_of


def lets_one_more_run(board, class_of, running):
    return not board.closed[class_of] and how_many_of_class(running, class_of) < board.limits[class_of]


def free_jobs(board, initiator):
    running = running_jobs(board)
    classes = [class_of for class_of in initiator.classes if lets_one_more_run(board, class_of, running)]
    names = [job.name for job in running]
    ready = [job for job in all_jobs(board) if is_ready(job)]
    return [job for job in ready if job.class_of in classes and job.name not in names]


def chosen_job(board, initiator, free):
    due = [job for job in free if is_due(job)]
    if len(due) > 0:
        return min(due, key=lambda job: job.due_turn)
    classes = initiator.classes
    return min(free, key=lambda job: (classes.index(job.class_of), -rank_of(job, board.a), job.number), default=None)


def pass_over(board, jobs):
    # The jobs come by rising numbers, so of several that become due here the least number has the first turn.
    for job in jobs:
        job.passed_over += 1
        if not is_due(job) and job.passed_over >= board.k:
            board.last_due_turn += 1
            job.due_turn = board.last_due_turn
