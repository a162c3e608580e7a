"""Promise 8: lose."""

import unittest

from tests.helper import (ANSWER, END, FAR, IDLE, JOB, START, ask, built, counts, drop, events, fix, forget, goal, job,
                          keep, last, lose, run, status, statuses, then, workers)

# Job 0 runs, 1 needs it and is answered, 2 is a goal of its own.
RUNNING = then([job(), job(needs=[0]), job(), goal(1, 2)], (ANSWER, 1), (ANSWER, 0), (START, 0))
AGAIN = [lose(0), run(0)]


class WhatIsRefused(unittest.TestCase):
    def test_a_number_that_is_no_jobs(self):
        for wrong in (-1, -3, 3, 64, FAR, -FAR):
            self.assertEqual(last(*RUNNING, lose(wrong)), [JOB], wrong)
        self.assertEqual(last(lose(0)), [JOB])

    def test_a_job_that_does_not_run(self):
        self.assertEqual(ask(*RUNNING, lose(1), lose(2))[-2:], [[IDLE], [IDLE]])
        self.assertEqual(last(job(), lose(0)), [IDLE])
        self.assertEqual(last(job(), goal(0), lose(0)), [IDLE])
        self.assertEqual(last(job(), goal(0), run(0), lose(0)), [IDLE])

    def test_a_job_that_is_ended(self):
        self.assertEqual(last(*built([job(), goal(0)], 0), lose(0)), [IDLE])
        self.assertEqual(last(*built([job(0, 1), goal(0)], 0), lose(0)), [IDLE])
        self.assertEqual(last(job(1), goal(0), run(0), lose(0)), [IDLE])

    def test_a_job_that_was_lost_just_now(self):
        self.assertEqual(ask(*RUNNING, lose(0), lose(0), lose(0))[-3:], [[1], [IDLE], [IDLE]])

    def test_a_refused_loss_is_no_loss(self):
        self.assertEqual(ask(*RUNNING, lose(0), lose(0), lose(0), run(0), lose(0))[-2:], [[0, 1, 0], [2]])


class Losses(unittest.TestCase):
    def test_1_2_3(self):
        given = ask(*RUNNING, lose(0), run(0), lose(0), run(0), lose(0))
        self.assertEqual(given[-5:], [[1], [0, 1, 0], [2], [0, 1, 0], [3]])

    def test_a_lost_job_may_be_started_again(self):
        calls = [*RUNNING, lose(0)]
        self.assertEqual(statuses(calls, 3), [[3], [2], [1]])
        self.assertEqual(last(*calls, events()), [0, 1, 0, 2, 2])
        self.assertEqual(statuses([*calls, run(0)], 3), [[4], [2], [1]])
        self.assertEqual(statuses([*calls, run(0, 0)], 3), [[5], [3], [1]])

    def test_a_lost_job_stays_answered(self):
        self.assertEqual(last(*RUNNING, lose(0), run(*[0] * 20)),
                         [0, 1, 0, 0, 0, 1, 1, 0, 1, 2, 2, 1, 2, 0, 2])

    def test_it_takes_no_workers_any_more(self):
        calls = then([workers(3), job(weight=2), job(weight=2), goal(0, 1)], (ANSWER, 0), (ANSWER, 1), (START, 0))
        self.assertEqual(last(*calls, events()), [0, 0, 0])
        self.assertEqual(ask(*calls, counts(), lose(0), counts(), events())[-4:],
                         [[0, 2, 0, 0, 0, 1, 2, 1, 1, 0], [1], [0, 2, 0, 0, 0, 0, 2, 3, 1, 0], [0, 1, 0, 1, 1]])

    def test_the_third_loss_is_a_failure_by_itself(self):
        calls = [*RUNNING, *AGAIN, *AGAIN]
        self.assertEqual(statuses(calls, 3), [[4], [2], [1]])
        self.assertEqual(statuses([*calls, lose(0)], 3), [[7, 0], [7, 0], [1]])

    def test_the_third_loss_settles_all_the_way_up(self):
        calls = then([job(), job(), job(needs=[1]), job(needs=[2]), job(needs=[0, 3]), goal(4)], (ANSWER, 4), (ANSWER, 3),
                     (ANSWER, 2), (ANSWER, 1), (START, 1))
        calls = [*calls, lose(1), run(0), lose(1), run(0), lose(1)]
        self.assertEqual(statuses(calls, 5), [[1], [7, 1], [7, 1], [7, 1], [2]])
        self.assertEqual(statuses(built(calls, 0), 5), [[5], [7, 1], [7, 1], [7, 1], [7, 1]])

    def test_a_third_loss_of_a_job_that_would_not_fail_and_of_one_that_would(self):
        for failing in (0, 1):
            calls = then([job(), job(0, failing), goal(1)], (ANSWER, 1), (START, 1))
            calls += [lose(1), run(0), lose(1), run(0), lose(1)]
            self.assertEqual(statuses(calls, 2), [[0], [7, 1]], failing)

    def test_a_first_or_second_loss_of_a_failing_job_is_no_failure(self):
        calls = then([job(0, 1), goal(0)], (ANSWER, 0), (START, 0))
        self.assertEqual(last(*calls, lose(0), status(0)), [3])
        self.assertEqual(last(*calls, *AGAIN, lose(0), status(0)), [3])
        self.assertEqual(last(*calls, *AGAIN, *AGAIN, run(0), status(0)), [7, 0])

    def test_each_job_has_its_own_losses(self):
        calls = then([workers(2), job(), job(), goal(0, 1)], (ANSWER, 0), (ANSWER, 1), (START, 0), (START, 1))
        given = ask(*calls, lose(0), lose(1), run(0, 1), lose(1), lose(0))
        self.assertEqual(given[-5:], [[1], [1], [0, 1, 0, 1, 1], [2], [2]])

    def test_a_job_that_came_to_its_end_behind_losses_is_built(self):
        calls = [*RUNNING, *AGAIN, *AGAIN, run(0)]
        self.assertEqual(statuses(calls, 3), [[5], [3], [1]])

    def test_a_lost_job_that_is_no_goal_any_more_is_not_started(self):
        calls = then([job(), goal(0)], (ANSWER, 0), (START, 0))
        self.assertEqual(ask(*calls, drop(0), lose(0), status(0), events())[-3:], [[1], [0], [0]])
        calls = [*calls, *AGAIN, *AGAIN, drop(0), lose(0)]
        self.assertEqual(ask(*calls, status(0))[-2:], [[3], [7, 0]])

    def test_in_a_blocked_house(self):
        calls = then([workers(2), job(0, 1), job(), goal(0, 1)], (ANSWER, 0), (ANSWER, 1), (START, 0), (START, 1),
                     (END, 0))
        calls = [*calls, keep(0)]
        self.assertEqual(ask(*calls, events(), lose(1), events(), status(1))[-4:], [[0, 0, 1], [1], [0], [3]])

    def test_the_third_loss_blocks_a_house_that_stops(self):
        calls = [*RUNNING, keep(0), *AGAIN, *AGAIN]
        self.assertEqual(last(*calls, events()), [0, 0, 0, 2, 2])
        self.assertEqual(last(*calls, lose(0), events()), [0])

    def test_losses_are_0_behind_forget_and_fix(self):
        for call in (forget(), fix(2)):
            given = ask(*RUNNING, *AGAIN, *AGAIN, call, lose(0), run(0), lose(0), run(0), lose(0))
            self.assertEqual(given[-5:], [[1], [0, 1, 0], [2], [0, 1, 0], [3]])
            given = ask(*RUNNING, *AGAIN, *AGAIN, lose(0), call, run(0), lose(0))
            self.assertEqual(given[-2:], [[0, 1, 0], [1]])


if __name__ == "__main__":
    unittest.main()
