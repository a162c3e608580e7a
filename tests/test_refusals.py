"""A refused call leaves the house as it was, for each call that may be refused."""

import unittest

from scheduledhouse.calls import (add_goals, add_job, drop_goals, fix_job, lose_job, run_schedule, set_keep, set_workers,
                                  tell_status)
from tests.helper import (ANSWER, END, FAR, IDLE, JOB, LIMIT, RANGE, START, ask, counts, drop, events, fix, go, goal,
                          house_of, job, keep, last, lose, picture, run, status, then, workers)

COUNT = 9

# A job for each status there is: 0 failed, 1 failed with it, 2 fetched, 3 built, 4 runs and was lost once,
# 5 is ready, 6 waits for 5, 7 is not answered, 8 is not wanted.
BUSY = then([job(0, 1), job(needs=[0]), job(1), job(), job(weight=2), job(weight=3), job(0, 1, 1, [5]), job(), job(),
             workers(3), goal(1, 2, 3, 4, 6, 7)],
            (ANSWER, 1), (ANSWER, 0), (START, 0), (END, 0), (ANSWER, 2), (ANSWER, 3), (START, 3), (END, 3), (ANSWER, 4),
            (START, 4))
BUSY = then([*BUSY, lose(4)], (START, 4), (ANSWER, 6), (ANSWER, 5))

REFUSED = [
    (job(2, 0, 1, []), RANGE),
    (job(0, -1, 1, []), RANGE),
    (job(0, 0, 9, [COUNT]), RANGE),
    (job(0, 0, 0, []), RANGE),
    (job(0, 0, 1, [0, COUNT]), JOB),
    (job(0, 0, 1, [-1]), JOB),
    (workers(0), RANGE),
    (workers(9), RANGE),
    (workers(-FAR), RANGE),
    (keep(2), RANGE),
    (keep(-1), RANGE),
    (goal(8, COUNT), JOB),
    (goal(-1, 8), JOB),
    (goal(*[8] * 65), LIMIT),
    (drop(4, 6, COUNT), JOB),
    (drop(-1, 4, 6), JOB),
    (drop(*[6] * 65), LIMIT),
    (run(0, 0, 0, -1), RANGE),
    (run(-FAR), RANGE),
    (run(*[0] * 513), LIMIT),
    (run(*[0] * 600), LIMIT),
    (lose(-1), JOB),
    (lose(COUNT), JOB),
    *[(lose(number), IDLE) for number in range(COUNT) if number != 4],
    (status(-1), JOB),
    (status(COUNT), JOB),
    (fix(-1), JOB),
    (fix(COUNT), JOB),
    (fix(FAR), JOB),
]

# What can be asked of a house, and what comes about in it.
STATUSES = [status(number) for number in range(COUNT)]
PROBE = [events(), counts(), *STATUSES, lose(4), run(3, 1, 4, 1, 5, 9, 2, 6), *STATUSES, run(*[1] * 50), *STATUSES,
         counts(), keep(0), events(), job(needs=[8]), goal(8, 9), run(*[0] * 50), counts(), status(9)]


class Refused(unittest.TestCase):
    def test_the_house_has_each_status(self):
        self.assertEqual(ask(*BUSY, *STATUSES)[len(BUSY):], [[7, 0], [7, 0], [6], [5], [4], [3], [2], [1], [0]])

    def test_each_is_refused_by_its_number_alone(self):
        for call, refusal in REFUSED:
            self.assertEqual(last(*BUSY, call), [refusal], call)

    def test_what_comes_behind_is_as_without_it(self):
        expected = ask(*BUSY, *PROBE)[len(BUSY):]
        for call, refusal in REFUSED:
            self.assertEqual(ask(*BUSY, call, *PROBE)[len(BUSY) + 1:], expected, call)
        self.assertEqual(ask(*BUSY, *[call for call, refusal in REFUSED], *PROBE)[-len(PROBE):], expected)

    def test_a_full_house_stays_full(self):
        calls = [*[job()] * 64, goal(*range(64)), run(*range(40))]
        probe = [events(), counts(), *[status(number) for number in range(65)]]
        self.assertEqual(ask(*calls, job(), job(needs=[0]), *probe)[len(calls):],
                         [[LIMIT], [LIMIT], *ask(*calls, *probe)[len(calls):]])

    def test_nothing_that_is_kept_is_changed(self):
        house = house_of({}, {"failing": 1}, {"needs": [0, 1]}, {}, goals=[2, 3], workers=2)
        go(house, (ANSWER, 2), (ANSWER, 1), (START, 1), (ANSWER, 0), (START, 0), (END, 1))
        before = picture(house)
        for call, told in ((add_job, (0, 0, 1, [4])), (set_workers, (9,)), (set_keep, (2,)), (add_goals, ([0, 4],)),
                           (drop_goals, ([2, 4],)), (run_schedule, ([0, -1],)), (run_schedule, ([0] * 513,)),
                           (lose_job, (4,)), (lose_job, (3,)), (tell_status, (4,)), (fix_job, (4,))):
            self.assertLess(call(house, *told)[0], 0, call)
            self.assertEqual(picture(house), before, call)


if __name__ == "__main__":
    unittest.main()
