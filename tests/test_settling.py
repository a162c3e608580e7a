"""The word settling, and what each event changes."""

import unittest

from scheduledhouse.calls import drop_goals
from scheduledhouse.events import possible_events
from tests.helper import ANSWER, END, START, build, go, house_of


def causes(house):
    return [job.cause for job in house.jobs]


class WhatEventsChange(unittest.TestCase):
    def test_an_end_without_failing_is_built(self):
        house = house_of({}, {"needs": [0]}, goals=[1])
        go(house, (ANSWER, 1))
        build(house, 0)
        self.assertEqual(possible_events(house), [(START, 1)])
        self.assertEqual(causes(house), [None, None])

    def test_an_end_with_failing_is_failed_by_itself(self):
        house = house_of({}, {"failing": 1}, goals=[1])
        build(house, 1)
        self.assertEqual(causes(house), [None, 1])
        self.assertEqual(possible_events(house), [])

    def test_an_answer_for_a_cached_job_fetches_it(self):
        house = house_of({"cached": 1, "failing": 1}, {"needs": [0]}, goals=[1])
        go(house, (ANSWER, 1), (ANSWER, 0))
        self.assertEqual(possible_events(house), [(START, 1)])
        self.assertEqual(causes(house), [None, None])


class Settling(unittest.TestCase):
    def test_a_failure_goes_all_the_way_up(self):
        house = house_of({"failing": 1}, {"needs": [0]}, {"needs": [1]}, {"needs": [0, 2]}, goals=[3])
        go(house, (ANSWER, 3), (ANSWER, 2), (ANSWER, 1))
        build(house, 0)
        self.assertEqual(causes(house), [0, 0, 0, 0])
        self.assertEqual(possible_events(house), [])

    def test_all_needs_must_be_ended(self):
        house = house_of({"failing": 1}, {}, {"needs": [0, 1]}, goals=[2])
        go(house, (ANSWER, 2))
        build(house, 0)
        self.assertEqual(causes(house), [0, None, None])
        build(house, 1)
        self.assertEqual(causes(house), [0, None, 0])

    def test_the_cause_is_the_least_whatever_came_first(self):
        for order in ([0, 1], [1, 0]):
            house = house_of({"failing": 1}, {"failing": 1}, {"needs": [1, 0]}, goals=[2])
            go(house, (ANSWER, 2))
            build(house, *order)
            self.assertEqual(causes(house), [0, 1, 0], order)

    def test_the_least_cause_is_not_the_cause_of_the_least_need(self):
        house = house_of({"failing": 1}, {"failing": 1}, {"needs": [0]}, {"needs": [1, 2]}, goals=[3])
        go(house, (ANSWER, 3), (ANSWER, 2))
        build(house, 1, 0)
        self.assertEqual(causes(house), [0, 1, 0, 0])

    def test_what_is_not_answered_stays(self):
        house = house_of({"failing": 1}, {"needs": [0]}, goals=[0, 1])
        build(house, 0)
        self.assertEqual(causes(house), [0, None])
        go(house, (ANSWER, 1))
        self.assertEqual(causes(house), [0, 0])

    def test_what_is_cached_does_not_fail(self):
        house = house_of({"failing": 1}, {"cached": 1, "needs": [0]}, goals=[0, 1])
        build(house, 0)
        go(house, (ANSWER, 1))
        self.assertEqual(causes(house), [0, None])
        self.assertEqual(possible_events(house), [])

    def test_what_is_not_wanted_stays(self):
        house = house_of({"failing": 1}, {"needs": [0]}, goals=[0, 1])
        go(house, (ANSWER, 1))
        drop_goals(house, [1])
        build(house, 0)
        self.assertEqual(causes(house), [0, None])

    def test_a_job_that_fails_lets_go_of_its_needs_only_behind_them(self):
        # 1 is wanted by 2 alone; both fail in one settling, as 2 is told behind 1.
        house = house_of({"failing": 1}, {"needs": [0]}, {"needs": [0, 1]}, goals=[2])
        go(house, (ANSWER, 2), (ANSWER, 0), (ANSWER, 1), (START, 0), (END, 0))
        self.assertEqual(causes(house), [0, 0, 0])


if __name__ == "__main__":
    unittest.main()
