"""What a house keeps from one call to the next: its jobs, its workers, whether it keeps going, its starts."""

UNENDED = 0
BUILT = 1
FETCHED = 2
FAILED = 3


class Job:
    """One job: what it was given at its coming, and what has become of it."""

    def __init__(self, number, cached, failing, weight, needs):
        self.number = number
        self.cached = cached
        self.failing = failing
        self.weight = weight
        self.needs = needs
        self.goal = False
        self.answered = False
        self.taken = 0
        self.outcome = UNENDED
        self.cause = None
        self.losses = 0


class House:
    """All jobs, each at the place of its number, the workers, and how many starts there have been."""

    def __init__(self):
        self.jobs = []
        self.workers = 1
        self.keeps_going = True
        self.starts = 0


def is_there(job):
    """Whether the job was built well or came from the cache."""
    return job.outcome == BUILT or job.outcome == FETCHED


def is_failed(job):
    """Whether the job failed."""
    return job.outcome == FAILED


def is_ended(job):
    """Whether the job is built, fetched or failed."""
    return job.outcome != UNENDED


def is_running(job):
    """Whether the job is running."""
    # Weights and workers are 1 at least, so a running job always takes a worker.
    return job.taken > 0


def fail(job, cause):
    """Let the job be failed with this cause."""
    job.outcome = FAILED
    job.cause = cause


def unfail(job):
    """Let the job be as if it had never failed or been lost."""
    if is_failed(job):
        job.outcome = UNENDED
        job.cause = None
    job.losses = 0
