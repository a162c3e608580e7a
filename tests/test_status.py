"""Promise 9: status."""

import unittest

from tests.helper import (ANSWER, END, FAR, JOB, START, ask, built, drop, forget, goal, job, last, run, status, statuses,
                          then, workers)


class Status(unittest.TestCase):
    def test_a_number_that_is_no_jobs(self):
        self.assertEqual(last(status(0)), [JOB])
        for wrong in (-1, -2, 2, 3, 64, FAR, -FAR):
            self.assertEqual(last(job(), job(), status(wrong)), [JOB], wrong)
        self.assertEqual(ask(*[job()] * 64, status(63), status(64))[64:], [[0], [JOB]])

    def test_0_not_wanted(self):
        self.assertEqual(last(job(), status(0)), [0])
        self.assertEqual(last(job(), goal(0), drop(0), status(0)), [0])
        self.assertEqual(statuses([job(), job(needs=[0]), goal(1)], 2), [[0], [1]])

    def test_0_ahead_of_all_that_only_a_wanted_job_can_be(self):
        answered = then([job(), goal(0)], (ANSWER, 0))
        self.assertEqual(last(*answered, drop(0), status(0)), [0])
        waiting = then([job(), job(needs=[0]), goal(1)], (ANSWER, 1))
        self.assertEqual(statuses([*waiting, drop(1)], 2), [[0], [0]])

    def test_0_of_what_only_a_cached_job_needs(self):
        self.assertEqual(statuses([job(), job(1, needs=[0]), goal(1)], 2), [[0], [1]])
        self.assertEqual(statuses([job(), job(1, needs=[0]), goal(1), run(0)], 2), [[0], [6]])

    def test_1_not_answered(self):
        self.assertEqual(last(job(), goal(0), status(0)), [1])
        self.assertEqual(last(job(1, 1), goal(0), status(0)), [1])

    def test_1_ahead_of_2(self):
        self.assertEqual(statuses([job(), job(needs=[0]), goal(0, 1)], 2), [[1], [1]])

    def test_1_of_a_need_once_it_is_wanted(self):
        self.assertEqual(statuses([job(), job(needs=[0]), goal(1), run(0)], 2), [[1], [2]])

    def test_2_a_need_is_not_there(self):
        calls = then([workers(2), job(), job(), job(needs=[0, 1]), goal(2)], (ANSWER, 2))
        self.assertEqual(last(*calls, status(2)), [2])
        calls = built(calls, 1)
        self.assertEqual(last(*calls, status(2)), [2])
        calls = then(calls, (ANSWER, 0), (START, 0))
        self.assertEqual(last(*calls, status(2)), [2])
        self.assertEqual(last(*then(calls, (END, 0)), status(2)), [3])

    def test_2_a_failed_need_is_not_there(self):
        calls = built(then([job(0, 1), job(), job(needs=[0, 1]), goal(2)], (ANSWER, 2)), 0)
        self.assertEqual(statuses(calls, 3), [[7, 0], [1], [2]])

    def test_3_ready(self):
        calls = then([job(), goal(0)], (ANSWER, 0))
        self.assertEqual(last(*calls, status(0)), [3])
        calls = built(then([job(), job(1), job(needs=[0, 1]), goal(2)], (ANSWER, 2), (ANSWER, 1)), 0)
        self.assertEqual(statuses(calls, 3), [[5], [6], [3]])

    def test_3_whether_workers_are_free_or_not(self):
        calls = then([job(), job(), goal(0, 1)], (ANSWER, 0), (ANSWER, 1), (START, 0))
        self.assertEqual(statuses(calls, 2), [[4], [3]])

    def test_4_running(self):
        calls = then([job(), goal(0)], (ANSWER, 0), (START, 0))
        self.assertEqual(last(*calls, status(0)), [4])

    def test_4_ahead_of_0(self):
        calls = then([job(), goal(0)], (ANSWER, 0), (START, 0))
        self.assertEqual(last(*calls, drop(0), status(0)), [4])

    def test_5_built(self):
        calls = built([job(), goal(0)], 0)
        self.assertEqual(last(*calls, status(0)), [5])
        self.assertEqual(last(*calls, drop(0), status(0)), [5])

    def test_6_fetched(self):
        for failing in (0, 1):
            calls = [job(1, failing), goal(0), run(0)]
            self.assertEqual(last(*calls, status(0)), [6])
            self.assertEqual(last(*calls, drop(0), status(0)), [6])

    def test_7_failed_and_the_cause(self):
        calls = built([job(), job(0, 1), goal(1)], 1)
        self.assertEqual(statuses(calls, 2), [[0], [7, 1]])
        self.assertEqual(last(*calls, drop(1), status(1)), [7, 1])
        calls = built(then([job(), job(0, 1), job(needs=[1]), goal(2)], (ANSWER, 2)), 1)
        self.assertEqual(statuses(calls, 3), [[0], [7, 1], [7, 1]])

    def test_behind_7_nothing_of_the_cause_is_left_when_forgotten(self):
        calls = built([job(0, 1), goal(0)], 0)
        self.assertEqual(ask(*calls, status(0), forget(), status(0))[-3:], [[7, 0], [0], [3]])

    def test_asking_changes_nothing(self):
        calls = then([job(), job(needs=[0]), goal(1)], (ANSWER, 1))
        self.assertEqual(statuses([*calls, status(0), status(1), status(2)], 2), statuses(calls, 2))


if __name__ == "__main__":
    unittest.main()
