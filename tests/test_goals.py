"""Promises 4 and 5: goal and drop."""

import unittest

from scheduledhouse.calls import add_goals, drop_goals
from scheduledhouse.events import possible_events
from tests.helper import (ANSWER, END, FAR, JOB, LIMIT, START, ask, build, built, counts, drop, events, forget, go, goal,
                          house_of, job, last, picture, run, statuses, then)

FULL = [job() for number in range(64)]
THREE = [job(), job(), job()]


class Goal(unittest.TestCase):
    def test_goals_are_wanted(self):
        self.assertEqual(last(*THREE, goal(2, 0), events()), [0, 2, 0, 2, 2])

    def test_goals_come_to_those_that_were(self):
        self.assertEqual(last(*THREE, goal(2), goal(1), events()), [0, 2, 1, 2, 2])

    def test_64_numbers(self):
        self.assertEqual(last(*FULL, goal(*range(64))), [0])
        self.assertEqual(last(job(), goal(*[0] * 64)), [0])

    def test_more_than_64_numbers(self):
        for count in (65, 66, 100):
            self.assertEqual(last(job(), goal(*[0] * count)), [LIMIT], count)
        self.assertEqual(last(*FULL, goal(*range(64), 0)), [LIMIT])
        self.assertEqual(last(job(), goal(*[0] * 65), events()), [0])

    def test_limit_before_job(self):
        self.assertEqual(last(goal(*[7] * 65)), [LIMIT])
        self.assertEqual(last(goal(*[7] * 64)), [JOB])

    def test_a_number_that_is_no_jobs(self):
        for wrong in (-1, -3, 3, 64, FAR, -FAR):
            for row in ([wrong], [0, wrong, 1], [wrong, 0], [0, 1, 2, wrong]):
                self.assertEqual(last(*THREE, goal(*row)), [JOB], row)

    def test_a_refused_goal_leaves_all_goals_as_they_were(self):
        self.assertEqual(last(*THREE, goal(1), goal(0, 2, 3), events()), [0, 2, 1])
        self.assertEqual(last(*THREE, goal(1), goal(*[0] * 65), events()), [0, 2, 1])
        house = house_of({}, {}, {}, goals=[1])
        before = picture(house)
        self.assertEqual(add_goals(house, [0, 2, 3]), [JOB])
        self.assertEqual(add_goals(house, [0] * 65), [LIMIT])
        self.assertEqual(picture(house), before)

    def test_an_empty_list(self):
        self.assertEqual(last(goal()), [0])
        self.assertEqual(last(*THREE, goal(1), goal(), events()), [0, 2, 1])

    def test_a_goal_that_is_one_already(self):
        self.assertEqual(last(*THREE, goal(1), goal(1)), [0])
        self.assertEqual(last(*THREE, goal(1), goal(1, 1), events()), [0, 2, 1])

    def test_an_ended_job_may_become_a_goal_and_is_not_wanted(self):
        house = house_of({}, {"needs": [0]}, goals=[1])
        go(house, (ANSWER, 1))
        build(house, 0)
        self.assertEqual(add_goals(house, [0]), [0])
        self.assertTrue(house.jobs[0].goal)
        self.assertEqual(possible_events(house), [(START, 1)])

    def test_opening_a_goal_settles(self):
        house = house_of({"failing": 1}, {"needs": [0]}, {}, goals=[0, 1])
        go(house, (ANSWER, 0), (ANSWER, 1), (START, 0))
        drop_goals(house, [1])
        go(house, (END, 0))
        self.assertEqual([job.cause for job in house.jobs], [0, None, None])
        self.assertEqual(add_goals(house, [2]), [0])
        self.assertEqual([job.cause for job in house.jobs], [0, None, None])
        self.assertEqual(add_goals(house, [3, 1]), [JOB])
        self.assertEqual([job.cause for job in house.jobs], [0, None, None])
        self.assertEqual(add_goals(house, [1]), [0])
        self.assertEqual([job.cause for job in house.jobs], [0, 0, None])


class GoalThroughAnswers(unittest.TestCase):
    def test_goals_that_are_ended(self):
        calls = then(built([job(), job(0, 1), job(1), goal(0, 1, 2)], 0, 1), (ANSWER, 2))
        before = ask(*calls, counts(), events())[-2:]
        self.assertEqual(before, [[0, 3, 1, 1, 1, 0, 0, 1, 2, 1], [0]])
        for again in ([goal(0, 1, 2)], [drop(0, 1, 2)], [drop(0, 1, 2), goal(2, 1, 0)]):
            self.assertEqual(ask(*calls, *again, counts(), events())[-2:], before)
            self.assertEqual(statuses([*calls, *again], 3), [[5], [7, 1], [6]])

    def test_an_ended_goal_wants_none_of_its_needs(self):
        calls = then([job(), job(1, needs=[0]), goal(1)], (ANSWER, 1))
        self.assertEqual(ask(*calls, goal(1), events())[-2:], [[0], [0]])

    def test_opening_a_goal_settles(self):
        calls = then([job(0, 1), job(needs=[0]), job(needs=[1]), goal(0, 1, 2)], (ANSWER, 0), (ANSWER, 1), (ANSWER, 2))
        calls = then([*calls, drop(1, 2)], (START, 0), (END, 0))
        self.assertEqual(statuses(calls, 3), [[7, 0], [0], [0]])
        self.assertEqual(statuses([*calls, goal(1)], 3), [[7, 0], [7, 0], [0]])
        self.assertEqual(statuses([*calls, goal(2)], 3), [[7, 0], [7, 0], [7, 0]])
        self.assertEqual(statuses([*calls, goal(2, 3)], 3), [[7, 0], [0], [0]])

    def test_a_failed_goal_is_wanted_again_once_it_is_forgotten(self):
        calls = built([job(0, 1), goal(0)], 0)
        self.assertEqual(statuses([*calls, forget()], 1), [[3]])
        self.assertEqual(statuses([*calls, drop(0), goal(0), forget()], 1), [[3]])
        self.assertEqual(statuses([*calls, drop(0), forget()], 1), [[0]])


class DropThroughAnswers(unittest.TestCase):
    CALLS = then([job(), job(needs=[0]), goal(1)], (ANSWER, 1), (ANSWER, 0), (START, 0))

    def test_a_job_goes_on_while_its_goal_is_dropped(self):
        calls = [*self.CALLS, drop(1)]
        self.assertEqual(statuses(calls, 2), [[4], [0]])
        self.assertEqual(ask(*calls, events(), counts(), run(7, 7), events())[-4:],
                         [[0, 0, 0], [0, 2, 0, 0, 0, 1, 0, 0, 1, 0], [0, 0, 0], [0]])
        self.assertEqual(statuses([*calls, run(0)], 2), [[5], [0]])

    def test_what_came_of_it_is_there_when_the_goal_comes_back(self):
        calls = [*self.CALLS, drop(1), run(0), goal(1)]
        self.assertEqual(statuses(calls, 2), [[5], [3]])
        self.assertEqual(last(*calls, run(*[0] * 9)), [0, 1, 1, 0, 1])

    def test_a_failing_job_fails_all_the_same(self):
        calls = then([job(0, 1), goal(0)], (ANSWER, 0), (START, 0))
        self.assertEqual(statuses([*calls, drop(0), run(0)], 1), [[7, 0]])

    def test_a_goal_that_comes_back_while_its_job_runs_is_not_started_twice(self):
        calls = then([job(), goal(0)], (ANSWER, 0), (START, 0))
        self.assertEqual(ask(*calls, drop(0), goal(0), events(), run(*[0] * 9))[-2:], [[0, 0, 0], [0, 0, 0]])


class Drop(unittest.TestCase):
    def test_what_is_dropped_is_wanted_no_more(self):
        self.assertEqual(last(*THREE, goal(0, 1, 2), drop(1), events()), [0, 2, 0, 2, 2])
        self.assertEqual(last(*THREE, goal(0, 1), drop(1, 0, 1), events()), [0])

    def test_64_numbers(self):
        self.assertEqual(ask(*FULL, goal(*range(64)), drop(*range(64)), events())[64:], [[0], [0], [0]])
        self.assertEqual(last(job(), drop(*[0] * 64)), [0])

    def test_more_than_64_numbers(self):
        for count in (65, 66, 100):
            self.assertEqual(last(job(), drop(*[0] * count)), [LIMIT], count)
        self.assertEqual(last(*FULL, drop(*range(64), 0)), [LIMIT])

    def test_limit_before_job(self):
        self.assertEqual(last(drop(*[7] * 65)), [LIMIT])
        self.assertEqual(last(drop(*[7] * 64)), [JOB])

    def test_a_number_that_is_no_jobs(self):
        for wrong in (-1, -3, 3, 64, FAR, -FAR):
            for row in ([wrong], [0, wrong, 1], [wrong, 0], [0, 1, 2, wrong]):
                self.assertEqual(last(*THREE, drop(*row)), [JOB], row)

    def test_a_refused_drop_leaves_all_goals_as_they_were(self):
        self.assertEqual(last(*THREE, goal(0, 1), drop(0, 1, 3), events()), [0, 2, 0, 2, 1])
        self.assertEqual(last(*THREE, goal(0, 1), drop(*[0] * 65), events()), [0, 2, 0, 2, 1])

    def test_an_empty_list(self):
        self.assertEqual(last(drop()), [0])
        self.assertEqual(last(*THREE, goal(1), drop(), events()), [0, 2, 1])

    def test_dropping_what_is_no_goal(self):
        self.assertEqual(last(*THREE, drop(0)), [0])
        self.assertEqual(last(*THREE, goal(1), drop(0, 2), events()), [0, 2, 1])

    def test_a_dropped_goal_may_become_one_again(self):
        self.assertEqual(last(*THREE, goal(1), drop(1), goal(1), events()), [0, 2, 1])

    def test_running_jobs_go_on(self):
        house = house_of({}, goals=[0])
        go(house, (ANSWER, 0), (START, 0))
        self.assertEqual(drop_goals(house, [0]), [0])
        self.assertEqual(possible_events(house), [(END, 0)])

    def test_what_a_wanted_job_needs_stays_wanted(self):
        house = house_of({}, {"needs": [0]}, goals=[0, 1])
        go(house, (ANSWER, 1))
        self.assertEqual(drop_goals(house, [0]), [0])
        self.assertEqual(possible_events(house), [(ANSWER, 0)])

    def test_dropping_does_not_settle(self):
        house = house_of({"failing": 1}, {"needs": [0]}, goals=[0, 1])
        go(house, (ANSWER, 0), (ANSWER, 1), (START, 0))
        drop_goals(house, [0, 1])
        go(house, (END, 0))
        before = picture(house)
        self.assertEqual(drop_goals(house, [0, 1]), [0])
        self.assertEqual(picture(house), before)


if __name__ == "__main__":
    unittest.main()
