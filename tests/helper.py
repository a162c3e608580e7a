"""Lays out calls, asks a house, and takes its answers apart."""

from scheduledhouse.calls import add_goals, add_job, set_keep, set_workers
from scheduledhouse.events import happen, possible_events
from scheduledhouse.house import answers
from scheduledhouse.state import House

JOB = -1
RANGE = -2
LIMIT = -3
IDLE = -4

END = 0
START = 1
ANSWER = 2

FAR = 10 ** 18


def job(cached=0, failing=0, weight=1, needs=()):
    return [0, cached, failing, weight, len(needs), *needs]


def workers(n):
    return [1, n]


def keep(n):
    return [2, n]


def goal(*jobs):
    return [3, len(jobs), *jobs]


def drop(*jobs):
    return [4, len(jobs), *jobs]


def events():
    return [5]


def run(*schedule):
    return [6, len(schedule), *schedule]


def lose(j):
    return [7, j]


def status(j):
    return [8, j]


def counts():
    return [9]


def fix(j):
    return [10, j]


def forget():
    return [11]


def ask(*calls):
    """Ask a new house; give the list of what each call answered."""
    flat = [number for call in calls for number in call]
    given = answers(flat)
    parts = []
    place = 0
    while place < len(given):
        behind = place + 1 + given[place]
        assert behind <= len(given), given
        parts.append(given[place + 1:behind])
        place = behind
    assert len(parts) == len(calls), (calls, given)
    return parts


def last(*calls):
    """Ask a new house; give what the last call answered."""
    return ask(*calls)[-1]


def then(calls, *wished):
    """These calls, and behind them a run for each of these events, which must be possible ones."""
    calls = list(calls)
    for event in wished:
        listed = last(*calls, events())[1:]
        possible = list(zip(listed[::2], listed[1::2]))
        assert event in possible, (event, possible)
        calls.append(run(possible.index(event)))
    return calls


def built(calls, *numbers):
    """These calls, and behind them an answer, a start and an end for each of these jobs."""
    for number in numbers:
        calls = then(calls, (ANSWER, number), (START, number), (END, number))
    return calls


def statuses(calls, count):
    """What status answers behind these calls for each of that many jobs."""
    return ask(*calls, *[status(number) for number in range(count)])[len(calls):]


def house_of(*jobs, goals=(), workers=1, keep=1):
    """A house with jobs, each told as a dict of what isn't usual about it."""
    house = House()
    for told in jobs:
        told = {"cached": 0, "failing": 0, "weight": 1, "needs": [], **told}
        assert add_job(house, told["cached"], told["failing"], told["weight"], told["needs"])[0] >= 0
    assert set_workers(house, workers) == [0]
    assert set_keep(house, keep) == [0]
    assert add_goals(house, list(goals)) == [0]
    return house


def go(house, *wished):
    """Let these events happen one behind another; each must be a possible one."""
    for event in wished:
        assert event in possible_events(house), (event, possible_events(house))
        happen(house, event)


def build(house, *numbers):
    """Let these jobs be answered, started and ended, one behind another."""
    for number in numbers:
        go(house, (ANSWER, number), (START, number), (END, number))


def picture(house):
    """All that a house keeps, as plain values that can be compared."""
    kept = dict(vars(house))
    kept["jobs"] = [{**vars(each), "needs": list(each.needs)} for each in house.jobs]
    return kept
