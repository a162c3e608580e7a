"""A list of calls on one new house, and what they answer."""

from scheduledhouse.calls import add_goals, add_job, drop_goals, fix_job, forget_failures, list_events
from scheduledhouse.calls import lose_job, run_schedule, set_keep, set_workers, tell_counts, tell_status
from scheduledhouse.state import House

CALL_JOB = 0
CALL_WORKERS = 1
CALL_KEEP = 2
CALL_GOAL = 3
CALL_DROP = 4
CALL_EVENTS = 5
CALL_RUN = 6
CALL_LOSE = 7
CALL_STATUS = 8
CALL_COUNTS = 9
CALL_FIX = 10

# At the place of each call's number: how many whole numbers it has, and whether a row is behind them.
WHOLE_NUMBERS = (3, 1, 1, 0, 0, 0, 0, 1, 1, 0, 1, 0)
HAS_ROW = (True, False, False, True, True, False, True, False, False, False, False, False)


class UnknownCall(ValueError):
    """A number stands where a call begins, and is no call's."""


class Call:
    """One call as it stands in a list of calls, and the place behind it."""

    def __init__(self, kind, numbers, row, behind):
        self.kind = kind
        self.numbers = numbers
        self.row = row
        self.behind = behind


def read_call(calls, place):
    """Read the call that begins at this place."""
    kind = calls[place]
    if not 0 <= kind < len(WHOLE_NUMBERS):
        raise UnknownCall(f"no call has the number {kind}")
    behind = place + 1 + WHOLE_NUMBERS[kind]
    numbers = calls[place + 1:behind]
    row = []
    if HAS_ROW[kind]:
        first = behind + 1
        behind = first + calls[behind]
        row = calls[first:behind]
    return Call(kind, numbers, row, behind)


def answer_call(house, call):
    """Give the numbers that the call answers."""
    if call.kind == CALL_JOB:
        return add_job(house, call.numbers[0], call.numbers[1], call.numbers[2], call.row)
    if call.kind == CALL_WORKERS:
        return set_workers(house, call.numbers[0])
    if call.kind == CALL_KEEP:
        return set_keep(house, call.numbers[0])
    if call.kind == CALL_GOAL:
        return add_goals(house, call.row)
    if call.kind == CALL_DROP:
        return drop_goals(house, call.row)
    if call.kind == CALL_EVENTS:
        return list_events(house)
    if call.kind == CALL_RUN:
        return run_schedule(house, call.row)
    if call.kind == CALL_LOSE:
        return lose_job(house, call.numbers[0])
    if call.kind == CALL_STATUS:
        return tell_status(house, call.numbers[0])
    if call.kind == CALL_COUNTS:
        return tell_counts(house)
    if call.kind == CALL_FIX:
        return fix_job(house, call.numbers[0])
    # Reading has let no number through that is no call's, so what is left is forget.
    return forget_failures(house)


def answers(calls):
    """Give for each call, in order, how many numbers it answers, and these."""
    house = House()
    given = []
    place = 0
    while place < len(calls):
        call = read_call(calls, place)
        answer = answer_call(house, call)
        given.append(len(answer))
        given.extend(answer)
        place = call.behind
    return given
