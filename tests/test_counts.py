"""Promise 10: counts."""

import unittest

from tests.helper import (ANSWER, END, START, ask, built, counts, drop, fix, forget, goal, job, keep, last, lose, run,
                          then, workers)

JOBS, BUILT, FETCHED, FAILED, RUNNING, WANTED, FREE, STARTS, REST = range(1, 10)


def told(calls, place):
    return last(*calls, counts())[place]


class Counts(unittest.TestCase):
    def test_a_new_house(self):
        self.assertEqual(last(counts()), [0, 0, 0, 0, 0, 0, 0, 1, 0, 1])

    def test_all_nine_at_once(self):
        # 0, 1 and 2 are built, 3 and 4 fetched, 5 failed and 6 with it, 7 and 8 run, 9 to 12 wait.
        jobs = [job(), job(), job(), job(1), job(1), job(0, 1), job(needs=[5]), job(weight=2), job(), job(), job(),
                job(needs=[9, 10]), job()]
        calls = [*jobs, workers(8), goal(0, 1, 2, 3, 4, 5, 6, 7, 8, 11, 12)]
        calls = built(then(calls, (ANSWER, 3), (ANSWER, 4), (ANSWER, 6), (ANSWER, 11)), 0, 1, 2, 5)
        calls = then(calls, (ANSWER, 7), (ANSWER, 8), (START, 7), (START, 8))
        self.assertEqual(last(*calls, counts()), [0, 13, 3, 2, 2, 2, 6, 5, 6, 0])

    def test_jobs(self):
        given = ask(counts(), job(), counts(), job(weight=9), counts(), job(), counts())
        self.assertEqual([answer[JOBS] for answer in given[::2]], [0, 1, 1, 2])
        self.assertEqual(told([job()] * 64 + [job()], JOBS), 64)

    def test_built(self):
        calls = [job(), job(), goal(0, 1)]
        self.assertEqual([told(built(calls, *numbers), BUILT) for numbers in ([], [0], [1, 0])], [0, 1, 2])
        self.assertEqual(told([*built(calls, 0), forget()], BUILT), 1)

    def test_fetched(self):
        calls = [job(1), job(1), job(), goal(0, 1, 2)]
        self.assertEqual(told(calls, FETCHED), 0)
        self.assertEqual(told(then(calls, (ANSWER, 2), (ANSWER, 0)), FETCHED), 1)
        self.assertEqual(told(then(calls, (ANSWER, 1), (ANSWER, 0)), FETCHED), 2)

    def test_failed_by_themselves_by_needs_and_by_losses(self):
        calls = then([job(0, 1), job(needs=[0]), job(), goal(1, 2)], (ANSWER, 1))
        self.assertEqual(told(calls, FAILED), 0)
        calls = built(calls, 0)
        self.assertEqual(told(calls, FAILED), 2)
        calls = then(calls, (ANSWER, 2), (START, 2)) + [lose(2), run(0), lose(2), run(0)]
        self.assertEqual(told(calls, FAILED), 2)
        self.assertEqual(told([*calls, lose(2)], FAILED), 3)
        self.assertEqual(told([*calls, lose(2), drop(0, 1, 2)], FAILED), 3)
        self.assertEqual(told([*calls, lose(2), forget()], FAILED), 0)

    def test_running_wanted_or_not(self):
        calls = then([workers(2), job(), job(), goal(0, 1)], (ANSWER, 0), (ANSWER, 1), (START, 0))
        self.assertEqual(told(calls, RUNNING), 1)
        calls = then(calls, (START, 1))
        self.assertEqual(told(calls, RUNNING), 2)
        self.assertEqual(told([*calls, drop(0, 1)], RUNNING), 2)
        self.assertEqual(told([*calls, lose(0)], RUNNING), 1)
        self.assertEqual(told([*calls, run(0, 0)], RUNNING), 0)

    def test_wanted(self):
        calls = [job(), job(), job(needs=[0, 1]), job(1, needs=[0]), goal(2, 3)]
        self.assertEqual(told(calls, WANTED), 2)
        self.assertEqual(told(then(calls, (ANSWER, 3)), WANTED), 1)
        calls = then(calls, (ANSWER, 2))
        self.assertEqual(told(calls, WANTED), 4)
        self.assertEqual(told([*calls, drop(2)], WANTED), 1)
        self.assertEqual(told(then(calls, (ANSWER, 0), (START, 0)), WANTED), 4)
        self.assertEqual(told(built(calls, 0), WANTED), 3)

    def test_wanted_in_a_blocked_house(self):
        calls = [*built([job(0, 1), job(), goal(0, 1)], 0), keep(0)]
        self.assertEqual(last(*calls, counts()), [0, 2, 0, 0, 1, 0, 1, 1, 1, 1])

    def test_free_workers(self):
        self.assertEqual([told([workers(count)], FREE) for count in range(1, 9)], list(range(1, 9)))
        calls = then([workers(8), job(weight=3), job(weight=4), goal(0, 1)], (ANSWER, 0), (ANSWER, 1), (START, 0))
        self.assertEqual(told(calls, FREE), 5)
        self.assertEqual(told(then(calls, (START, 1)), FREE), 1)
        self.assertEqual(told(then(calls, (START, 1), (END, 0)), FREE), 4)

    def test_free_workers_when_running_jobs_take_more_than_there_are(self):
        calls = then([workers(8), job(weight=5), job(weight=2), goal(0, 1)], (ANSWER, 0), (ANSWER, 1), (START, 0),
                     (START, 1))
        free = [told([*calls, workers(count)], FREE) for count in range(1, 9)]
        self.assertEqual(free, [0, 0, 0, 0, 0, 0, 0, 1])
        self.assertEqual(told([*calls, workers(1), run(0)], FREE), 0)
        self.assertEqual(told([*calls, workers(3), run(0)], FREE), 1)

    def test_free_workers_beside_a_job_heavier_than_they_are(self):
        calls = then([workers(2), job(weight=8), goal(0)], (ANSWER, 0), (START, 0))
        self.assertEqual([told([*calls, workers(count)], FREE) for count in (1, 2, 3, 8)], [0, 0, 1, 6])

    def test_starts_in_all(self):
        calls = then([job(), job(0, 1), job(1), goal(0, 1, 2)], (ANSWER, 0), (ANSWER, 1), (ANSWER, 2))
        self.assertEqual(told(calls, STARTS), 0)
        calls = then(calls, (START, 0))
        self.assertEqual(told(calls, STARTS), 1)
        calls = then(calls, (END, 0), (START, 1), (END, 1))
        self.assertEqual(told(calls, STARTS), 2)

    def test_a_job_that_was_lost_and_started_again_counts_twice(self):
        calls = then([job(), goal(0)], (ANSWER, 0), (START, 0))
        self.assertEqual(told([*calls, lose(0)], STARTS), 1)
        self.assertEqual(told([*calls, lose(0), run(0)], STARTS), 2)
        self.assertEqual(told([*calls, lose(0), run(0), lose(0), run(0), lose(0)], STARTS), 3)

    def test_starts_stay_behind_forget_and_fix_and_go_on_from_there(self):
        calls = built([job(0, 1), goal(0)], 0)
        for call in (forget(), fix(0)):
            self.assertEqual(told([*calls, call], STARTS), 1)
            self.assertEqual(told([*calls, call, run(0, 0)], STARTS), 2)

    def test_rest(self):
        calls = [job(), goal(0)]
        self.assertEqual([told([*calls, run(*[0] * count)], REST) for count in range(5)], [0, 0, 0, 1, 1])
        self.assertEqual(told([job()], REST), 1)
        self.assertEqual(told([*calls, drop(0)], REST), 1)

    def test_a_job_that_runs_unwanted_is_no_rest(self):
        calls = then([job(), goal(0)], (ANSWER, 0), (START, 0))
        self.assertEqual(told([*calls, drop(0)], REST), 0)
        self.assertEqual(told([*calls, drop(0), run(0)], REST), 1)

    def test_rest_of_a_blocked_house(self):
        calls = built([job(0, 1), job(), goal(0, 1)], 0)
        self.assertEqual([told(calls, REST), told([*calls, keep(0)], REST), told([*calls, keep(0), keep(1)], REST)],
                         [0, 1, 0])

    def test_asking_changes_nothing(self):
        calls = then([job(), job(needs=[0]), goal(1)], (ANSWER, 1))
        given = ask(*calls, counts(), counts(), counts())
        self.assertEqual(given[-3:], [[0, 2, 0, 0, 0, 0, 2, 1, 0, 0]] * 3)


if __name__ == "__main__":
    unittest.main()
