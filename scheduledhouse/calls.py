"""The calls on a house: each gives the list of numbers that it answers."""

from scheduledhouse.events import possible_events, settle
from scheduledhouse.state import Job, unfail

JOB = -1
RANGE = -2
LIMIT = -3

MOST_JOBS = 64
MOST_GOALS = 64
MOST_WEIGHT = 8
MOST_WORKERS = 8


def are_jobs(house, numbers):
    """Whether each of the numbers is a job's."""
    return all([0 <= number < len(house.jobs) for number in numbers])


def is_mark(number):
    """Whether the number is 0 or 1."""
    return number == 0 or number == 1


def add_job(house, cached, failing, weight, needs):
    """The call job."""
    if not is_mark(cached) or not is_mark(failing) or not 1 <= weight <= MOST_WEIGHT:
        return [RANGE]
    if not are_jobs(house, needs):
        return [JOB]
    number = len(house.jobs)
    if number >= MOST_JOBS:
        return [LIMIT]
    house.jobs.append(Job(number, cached == 1, failing == 1, weight, sorted(set(needs))))
    return [number]


def set_workers(house, count):
    """The call workers."""
    if not 1 <= count <= MOST_WORKERS:
        return [RANGE]
    house.workers = count
    return [0]


def set_keep(house, mark):
    """The call keep."""
    if not is_mark(mark):
        return [RANGE]
    house.keeps_going = mark == 1
    return [0]


def mark_goals(house, numbers, goal):
    """Let these jobs be goals or not, and give 0; or give the refusal and change nothing."""
    if len(numbers) > MOST_GOALS:
        return LIMIT
    if not are_jobs(house, numbers):
        return JOB
    for number in numbers:
        job = house.jobs[number]
        job.goal = goal
    return 0


def add_goals(house, numbers):
    """The call goal."""
    answer = mark_goals(house, numbers, True)
    if answer == 0:
        settle(house)
    return [answer]


def drop_goals(house, numbers):
    """The call drop."""
    return [mark_goals(house, numbers, False)]


def list_events(house):
    """The call events."""
    answer = [0]
    for event in possible_events(house):
        answer.extend(event)
    return answer


def forget_failures(house):
    """The call forget."""
    for job in house.jobs:
        unfail(job)
    return [0]
