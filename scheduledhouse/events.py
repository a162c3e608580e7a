"""What may happen in a house, what it changes, and what is settled behind it."""

from scheduledhouse.state import BUILT, FETCHED, fail, is_ended, is_failed, is_running, is_there

END = 0
START = 1
ANSWER = 2

MOST_LOSSES = 3


def wanted_marks(house):
    """Give for each job, at the place of its number, whether it is wanted."""
    marks = [job.goal for job in house.jobs]
    # Needs have smaller numbers: going down, all that could want a job is told before it.
    for job in reversed(house.jobs):
        if is_ended(job):
            marks[job.number] = False
        if marks[job.number] and job.answered and not job.cached:
            for need in job.needs:
                marks[need] = True
    return marks


def free_workers(house):
    """Give how many workers no running job takes."""
    # Workers may have become fewer than what running jobs took when they were started.
    return max(0, house.workers - sum([job.taken for job in house.jobs]))


def workers_for(house, job):
    """Give how many workers the job takes if it is started now."""
    return min(job.weight, house.workers)


def is_blocked(house):
    """Whether a failure, of a wanted job or not, lets nothing new begin."""
    return not house.keeps_going and any([is_failed(job) for job in house.jobs])


def needs_are_there(house, job):
    """Whether all that the job needs is there."""
    for need in job.needs:
        if not is_there(house.jobs[need]):
            return False
    return True


def may_start(house, job, free):
    """Whether a wanted job can be started with this many free workers."""
    if not job.answered or job.cached or is_running(job):
        return False
    if free < workers_for(house, job):
        return False
    return needs_are_there(house, job)


def possible_events(house):
    """Give the events that may happen, in their order, each as its kind and the job's number."""
    found = [(END, job.number) for job in house.jobs if is_running(job)]
    if is_blocked(house):
        return found
    marks = wanted_marks(house)
    wanted = [job for job in house.jobs if marks[job.number]]
    free = free_workers(house)
    found.extend([(START, job.number) for job in wanted if may_start(house, job, free)])
    found.extend([(ANSWER, job.number) for job in wanted if not job.answered])
    return found


def is_at_rest(house):
    """Whether no event may happen."""
    return len(possible_events(house)) == 0


def happen(house, event):
    """Let one of the possible events happen, and settle the house behind it."""
    job = house.jobs[event[1]]
    if event[0] == END:
        end_job(job)
    elif event[0] == START:
        start_job(house, job)
    else:
        answer_job(job)
    settle(house)


def end_job(job):
    """Let a running job come to its end."""
    job.taken = 0
    if job.failing:
        fail(job, job.number)
    else:
        job.outcome = BUILT


def start_job(house, job):
    """Let the job be running from now on."""
    job.taken = workers_for(house, job)
    house.starts += 1


def answer_job(job):
    """Let the cache answer for the job."""
    job.answered = True
    if job.cached:
        job.outcome = FETCHED


def lose_running(house, job):
    """Let a running job be lost, and settle the house behind it."""
    job.taken = 0
    job.losses += 1
    if job.losses == MOST_LOSSES:
        fail(job, job.number)
    settle(house)


def settle(house):
    """Let failures go over to the jobs that need what failed."""
    # A job that fails here changes only whether it and smaller jobs are wanted, and those are
    # passed by then: so telling it once is the same as telling it anew for each.
    marks = wanted_marks(house)
    for job in house.jobs:
        if marks[job.number] and job.answered and not job.cached and not is_running(job):
            settle_job(house, job)


def settle_job(house, job):
    """Let the job be failed if all its needs are ended and one at least is failed."""
    causes = []
    for need in job.needs:
        needed = house.jobs[need]
        if not is_ended(needed):
            return
        if is_failed(needed):
            causes.append(needed.cause)
    if len(causes) > 0:
        fail(job, min(causes))
