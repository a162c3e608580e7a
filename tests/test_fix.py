"""Promise 11: fix."""

import unittest

from tests.helper import (ANSWER, FAR, JOB, START, ask, built, counts, events, fix, goal, job, keep, last, lose, run,
                          statuses, then, workers)

# 0 fails, and 1 with it.
FAILED = built(then([job(0, 1), job(needs=[0]), goal(1)], (ANSWER, 1)), 0)


class Fix(unittest.TestCase):
    def test_a_number_that_is_no_jobs(self):
        self.assertEqual(last(fix(0)), [JOB])
        for wrong in (-1, -2, 2, 3, 64, FAR, -FAR):
            self.assertEqual(last(*FAILED, fix(wrong)), [JOB], wrong)
            self.assertEqual(statuses([*FAILED, fix(wrong)], 2), [[7, 0], [7, 0]], wrong)

    def test_it_answers_0(self):
        self.assertEqual(last(job(), fix(0)), [0])
        self.assertEqual(last(job(0, 1), fix(0)), [0])
        self.assertEqual(ask(*FAILED, fix(0), fix(0), fix(1))[-3:], [[0], [0], [0]])

    def test_a_failing_job_is_built_by_the_next_run(self):
        self.assertEqual(statuses(FAILED, 2), [[7, 0], [7, 0]])
        calls = [*FAILED, fix(0)]
        self.assertEqual(statuses(calls, 2), [[3], [2]])
        self.assertEqual(last(*calls, run(*[0] * 9)), [0, 1, 0, 0, 0, 1, 1, 0, 1])
        self.assertEqual(statuses([*calls, run(*[0] * 9)], 2), [[5], [5]])

    def test_ahead_of_its_failure(self):
        calls = [job(0, 1), fix(0), goal(0), run(0, 0, 0)]
        self.assertEqual(statuses(calls, 1), [[5]])

    def test_while_it_runs(self):
        calls = then([job(0, 1), goal(0)], (ANSWER, 0), (START, 0))
        self.assertEqual(statuses([*calls, fix(0)], 1), [[4]])
        self.assertEqual(statuses([*calls, fix(0), run(0)], 1), [[5]])

    def test_it_mends_no_other_job(self):
        calls = [*FAILED, fix(1), run(*[0] * 9)]
        self.assertEqual(last(*calls), [0, 1, 0, 0, 0])
        self.assertEqual(statuses(calls, 2), [[7, 0], [7, 0]])

    def test_it_forgets_every_failure(self):
        calls = built([job(0, 1), job(0, 1), job(), goal(0, 1)], 0, 1)
        self.assertEqual(statuses(calls, 3), [[7, 0], [7, 1], [0]])
        for number, expected in enumerate([[[5], [7, 1], [0]], [[7, 0], [5], [0]], [[7, 0], [7, 1], [0]]]):
            self.assertEqual(statuses([*calls, fix(number)], 3), [[3], [3], [0]], number)
            self.assertEqual(statuses([*calls, fix(number), run(*[0] * 9)], 3), expected, number)

    def test_it_forgets_all_losses(self):
        calls = then([workers(2), job(), job(), job(), goal(0, 1)], (ANSWER, 0), (ANSWER, 1), (START, 0), (START, 1))
        calls += [lose(0), lose(1), run(0, 1), lose(0), lose(1), run(0, 1)]
        self.assertEqual(ask(*calls, lose(0), lose(1))[-2:], [[3], [3]])
        for number in range(3):
            self.assertEqual(ask(*calls, fix(number), lose(0), lose(1))[-2:], [[1], [1]], number)

    def test_a_failure_by_losses_is_forgotten(self):
        calls = then([job(), job(needs=[0]), goal(1)], (ANSWER, 1), (ANSWER, 0), (START, 0))
        calls += [lose(0), run(0), lose(0), run(0), lose(0)]
        self.assertEqual(statuses(calls, 2), [[7, 0], [7, 0]])
        self.assertEqual(statuses([*calls, fix(0)], 2), [[3], [2]])
        self.assertEqual(statuses([*calls, fix(1), run(*[0] * 9)], 2), [[5], [5]])

    def test_what_is_built_fetched_running_or_answered_stays(self):
        calls = then(built([job(), job(1), job(), job(), goal(0, 1, 2, 3)], 0), (ANSWER, 1), (ANSWER, 2), (START, 2),
                     (ANSWER, 3))
        before = ask(*calls, counts(), events())[-2:]
        self.assertEqual(statuses([*calls, fix(0)], 4), [[5], [6], [4], [3]])
        self.assertEqual(ask(*calls, fix(0), counts(), events())[-2:], before)

    def test_a_blocked_house_is_blocked_no_more(self):
        calls = [*FAILED, keep(0)]
        self.assertEqual(ask(*calls, events(), fix(0), events())[-3:], [[0], [0], [0, 1, 0]])

    def test_a_cached_job_stays_cached(self):
        self.assertEqual(ask(job(1, 1), fix(0), goal(0), run(0, 0))[-1], [0, 2, 0])


if __name__ == "__main__":
    unittest.main()
