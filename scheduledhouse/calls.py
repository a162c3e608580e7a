"""The calls on a house: each gives the list of numbers that it answers."""

from scheduledhouse.events import free_workers, happen, is_at_rest, lose_running, needs_are_there, possible_events
from scheduledhouse.events import settle, wanted_marks
from scheduledhouse.state import BUILT, FAILED, FETCHED, Job, is_failed, is_running, unfail

JOB = -1
RANGE = -2
LIMIT = -3
IDLE = -4

MOST_JOBS = 64
MOST_GOALS = 64
MOST_WEIGHT = 8
MOST_WORKERS = 8
MOST_SCHEDULED = 512

STATUS_NOT_WANTED = 0
STATUS_NOT_ANSWERED = 1
STATUS_NEEDS_MISSING = 2
STATUS_READY = 3
STATUS_RUNNING = 4
STATUS_BUILT = 5
STATUS_FETCHED = 6
STATUS_FAILED = 7


def are_jobs(house, numbers):
    """Whether each of the numbers is a job's."""
    return all([0 <= number < len(house.jobs) for number in numbers])


def is_mark(number):
    """Whether the number is 0 or 1."""
    return number == 0 or number == 1


def add_job(house, cached, failing, weight, needs):
    """The call job."""
    if not is_mark(cached) or not is_mark(failing) or not 1 <= weight <= MOST_WEIGHT:
        return [RANGE]
    if not are_jobs(house, needs):
        return [JOB]
    number = len(house.jobs)
    if number >= MOST_JOBS:
        return [LIMIT]
    house.jobs.append(Job(number, cached == 1, failing == 1, weight, sorted(set(needs))))
    return [number]


def set_workers(house, count):
    """The call workers."""
    if not 1 <= count <= MOST_WORKERS:
        return [RANGE]
    house.workers = count
    return [0]


def set_keep(house, mark):
    """The call keep."""
    if not is_mark(mark):
        return [RANGE]
    house.keeps_going = mark == 1
    return [0]


def mark_goals(house, numbers, goal):
    """Let these jobs be goals or not, and give 0; or give the refusal and change nothing."""
    if len(numbers) > MOST_GOALS:
        return LIMIT
    if not are_jobs(house, numbers):
        return JOB
    for number in numbers:
        job = house.jobs[number]
        job.goal = goal
    return 0


def add_goals(house, numbers):
    """The call goal."""
    answer = mark_goals(house, numbers, True)
    if answer == 0:
        settle(house)
    return [answer]


def drop_goals(house, numbers):
    """The call drop."""
    return [mark_goals(house, numbers, False)]


def list_events(house):
    """The call events."""
    answer = [0]
    for event in possible_events(house):
        answer.extend(event)
    return answer


def run_schedule(house, schedule):
    """The call run."""
    if len(schedule) > MOST_SCHEDULED:
        return [LIMIT]
    if any([number < 0 for number in schedule]):
        return [RANGE]
    answer = [0]
    for number in schedule:
        possible = possible_events(house)
        if len(possible) == 0:
            break
        event = possible[number % len(possible)]
        happen(house, event)
        answer.extend(event)
    return answer


def lose_job(house, number):
    """The call lose."""
    if not are_jobs(house, [number]):
        return [JOB]
    job = house.jobs[number]
    if not is_running(job):
        return [IDLE]
    lose_running(house, job)
    return [job.losses]


def tell_status(house, number):
    """The call status."""
    if not are_jobs(house, [number]):
        return [JOB]
    job = house.jobs[number]
    if is_failed(job):
        return [STATUS_FAILED, job.cause]
    if job.outcome == FETCHED:
        return [STATUS_FETCHED]
    if job.outcome == BUILT:
        return [STATUS_BUILT]
    if is_running(job):
        return [STATUS_RUNNING]
    return [status_of_idle(house, job)]


def status_of_idle(house, job):
    """Give the status of a job that is neither ended nor running."""
    if not wanted_marks(house)[job.number]:
        return STATUS_NOT_WANTED
    if not job.answered:
        return STATUS_NOT_ANSWERED
    if not needs_are_there(house, job):
        return STATUS_NEEDS_MISSING
    return STATUS_READY


def tell_counts(house):
    """The call counts."""
    outcomes = [job.outcome for job in house.jobs]
    return [
        0,
        len(house.jobs),
        outcomes.count(BUILT),
        outcomes.count(FETCHED),
        outcomes.count(FAILED),
        len([job for job in house.jobs if is_running(job)]),
        wanted_marks(house).count(True),
        free_workers(house),
        house.starts,
        1 if is_at_rest(house) else 0,
    ]


def fix_job(house, number):
    """The call fix."""
    if not are_jobs(house, [number]):
        return [JOB]
    job = house.jobs[number]
    job.failing = False
    return forget_failures(house)


def forget_failures(house):
    """The call forget."""
    for job in house.jobs:
        unfail(job)
    return [0]
