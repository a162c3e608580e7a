"""Promise 12: forget."""

import unittest

from scheduledhouse.calls import forget_failures, list_events
from scheduledhouse.events import possible_events
from tests.helper import (ANSWER, END, START, ask, build, built, counts, drop, events, forget, go, goal, house_of, job,
                          keep, last, lose, picture, run, status, statuses, then, workers)


class Forget(unittest.TestCase):
    def test_it_answers_0(self):
        self.assertEqual(last(forget()), [0])
        self.assertEqual(ask(job(), goal(0), forget(), forget(), events())[2:], [[0], [0], [0, 2, 0]])

    def test_no_job_is_failed_and_what_was_answered_stays(self):
        house = house_of({"failing": 1}, {"needs": [0]}, {}, goals=[1, 2], keep=0)
        go(house, (ANSWER, 1))
        build(house, 0)
        self.assertEqual([job.cause for job in house.jobs], [0, 0, None])
        self.assertEqual(possible_events(house), [])
        self.assertEqual(forget_failures(house), [0])
        self.assertEqual([job.cause for job in house.jobs], [None, None, None])
        self.assertEqual(list_events(house), [0, START, 0, ANSWER, 2])

    def test_what_is_built_fetched_or_running_stays(self):
        house = house_of({}, {"cached": 1}, {}, goals=[0, 1, 2])
        build(house, 0)
        go(house, (ANSWER, 1), (ANSWER, 2), (START, 2))
        before = picture(house)
        self.assertEqual(forget_failures(house), [0])
        self.assertEqual(picture(house), before)
        self.assertEqual(possible_events(house), [(END, 2)])

    def test_losses_are_0_of_ended_and_open_jobs_alike(self):
        house = house_of({}, {"failing": 1}, {}, goals=[0, 1])
        build(house, 0, 1)
        for each in house.jobs:
            each.losses = 2
        self.assertEqual(forget_failures(house), [0])
        self.assertEqual([each.losses for each in house.jobs], [0, 0, 0])

    def test_the_same_failure_may_come_again(self):
        house = house_of({"failing": 1}, {"needs": [0]}, goals=[1])
        go(house, (ANSWER, 1))
        build(house, 0)
        forget_failures(house)
        go(house, (START, 0), (END, 0))
        self.assertEqual([job.cause for job in house.jobs], [0, 0])


class ForgetThroughAnswers(unittest.TestCase):
    FAILED = built(then([job(0, 1), job(needs=[0]), goal(1)], (ANSWER, 1)), 0)

    def test_no_job_is_failed(self):
        self.assertEqual(statuses(self.FAILED, 2), [[7, 0], [7, 0]])
        self.assertEqual(statuses([*self.FAILED, forget()], 2), [[3], [2]])
        self.assertEqual(last(*self.FAILED, forget(), counts()), [0, 2, 0, 0, 0, 0, 2, 1, 1, 0])

    def test_what_was_answered_stays_answered(self):
        self.assertEqual(last(*self.FAILED, forget(), events()), [0, START, 0])
        self.assertEqual(last(*self.FAILED, forget(), run(*[0] * 9)), [0, START, 0, END, 0])
        self.assertEqual(statuses([*self.FAILED, forget(), run(*[0] * 9)], 2), [[7, 0], [7, 0]])

    def test_failing_jobs_stay_failing(self):
        for times in range(1, 5):
            calls = [*self.FAILED, *[forget(), run(0, 0)] * times]
            self.assertEqual(ask(*calls, status(0), counts())[-2:], [[7, 0], [0, 2, 0, 0, 2, 0, 0, 1, times + 1, 1]])

    def test_goals_that_were_dropped_stay_dropped(self):
        self.assertEqual(statuses([*self.FAILED, drop(1), forget()], 2), [[0], [0]])

    def test_failures_that_nobody_wants_are_gone_too(self):
        calls = [*built([job(0, 1), job(), goal(0, 1)], 0), drop(0), keep(0)]
        self.assertEqual(ask(*calls, events(), forget(), events())[-3:], [[0], [0], [0, ANSWER, 1]])

    def test_losses_are_gone(self):
        calls = then([job(), goal(0)], (ANSWER, 0), (START, 0))
        calls += [lose(0), run(0), lose(0), run(0)]
        self.assertEqual(last(*calls, lose(0)), [3])
        self.assertEqual(last(*calls, forget(), lose(0)), [1])
        self.assertEqual(ask(*calls, lose(0), forget(), status(0), run(0), lose(0))[-3:], [[3], [0, START, 0], [1]])

    def test_losses_of_a_job_that_does_not_run_are_gone(self):
        calls = then([job(), goal(0)], (ANSWER, 0), (START, 0))
        self.assertEqual(last(*calls, lose(0), run(0), lose(0), forget(), run(0), lose(0)), [1])

    def test_running_jobs_go_on_and_take_what_they_took(self):
        calls = then([workers(5), job(weight=3), job(0, 1), goal(0, 1)], (ANSWER, 0), (ANSWER, 1), (START, 0), (START, 1),
                     (END, 1))
        self.assertEqual(last(*calls, counts()), [0, 2, 0, 0, 1, 1, 1, 2, 2, 0])
        self.assertEqual(last(*calls, forget(), counts()), [0, 2, 0, 0, 0, 1, 2, 2, 2, 0])
        self.assertEqual(last(*calls, forget(), run(0), status(0)), [5])

    def test_what_is_there_stays_there(self):
        calls = then(built([job(), job(1), goal(0, 1)], 0), (ANSWER, 1))
        self.assertEqual(statuses([*calls, forget()], 2), [[5], [6]])
        self.assertEqual(last(*calls, forget(), events()), [0])


if __name__ == "__main__":
    unittest.main()
