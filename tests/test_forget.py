"""Promise 12: forget."""

import unittest

from scheduledhouse.calls import forget_failures, list_events
from scheduledhouse.events import possible_events
from tests.helper import ANSWER, END, START, ask, build, events, forget, go, goal, house_of, job, last, picture


class Forget(unittest.TestCase):
    def test_it_answers_0(self):
        self.assertEqual(last(forget()), [0])
        self.assertEqual(ask(job(), goal(0), forget(), forget(), events())[2:], [[0], [0], [0, 2, 0]])

    def test_no_job_is_failed_and_what_was_answered_stays(self):
        house = house_of({"failing": 1}, {"needs": [0]}, {}, goals=[1, 2], keep=0)
        go(house, (ANSWER, 1))
        build(house, 0)
        self.assertEqual([job.cause for job in house.jobs], [0, 0, None])
        self.assertEqual(possible_events(house), [])
        self.assertEqual(forget_failures(house), [0])
        self.assertEqual([job.cause for job in house.jobs], [None, None, None])
        self.assertEqual(list_events(house), [0, START, 0, ANSWER, 2])

    def test_what_is_built_fetched_or_running_stays(self):
        house = house_of({}, {"cached": 1}, {}, goals=[0, 1, 2])
        build(house, 0)
        go(house, (ANSWER, 1), (ANSWER, 2), (START, 2))
        before = picture(house)
        self.assertEqual(forget_failures(house), [0])
        self.assertEqual(picture(house), before)
        self.assertEqual(possible_events(house), [(END, 2)])

    def test_losses_are_0_of_ended_and_open_jobs_alike(self):
        house = house_of({}, {"failing": 1}, {}, goals=[0, 1])
        build(house, 0, 1)
        for each in house.jobs:
            each.losses = 2
        self.assertEqual(forget_failures(house), [0])
        self.assertEqual([each.losses for each in house.jobs], [0, 0, 0])

    def test_the_same_failure_may_come_again(self):
        house = house_of({"failing": 1}, {"needs": [0]}, goals=[1])
        go(house, (ANSWER, 1))
        build(house, 0)
        forget_failures(house)
        go(house, (START, 0), (END, 0))
        self.assertEqual([job.cause for job in house.jobs], [0, 0])


if __name__ == "__main__":
    unittest.main()
