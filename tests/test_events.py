"""Promise 6: events; and the words wanted, free, blocked, events, rest."""

import unittest

from scheduledhouse.calls import add_goals, drop_goals, list_events, set_keep, set_workers
from scheduledhouse.events import free_workers, happen, is_at_rest, possible_events, wanted_marks
from scheduledhouse.state import House
from tests.helper import (ANSWER, END, START, ask, build, drop, events, go, goal, house_of, job, keep, last, picture,
                          workers)


class EventsAnswered(unittest.TestCase):
    def test_an_empty_house(self):
        self.assertEqual(last(events()), [0])
        self.assertEqual(last(workers(8), keep(0), events()), [0])

    def test_jobs_without_goals(self):
        self.assertEqual(last(job(), job(1), job(0, 1), events()), [0])

    def test_a_goal_has_an_answer_cached_or_not(self):
        self.assertEqual(last(job(0), job(1), job(0, 1), job(1, 1), goal(3, 2, 1, 0), events()),
                         [0, 2, 0, 2, 1, 2, 2, 2, 3])

    def test_what_is_no_goal_has_none(self):
        self.assertEqual(last(job(), job(), job(), goal(1), events()), [0, 2, 1])

    def test_needs_of_an_unanswered_goal_have_none(self):
        self.assertEqual(last(job(), job(needs=[0]), goal(1), events()), [0, 2, 1])
        self.assertEqual(last(job(), job(1, needs=[0]), goal(1), events()), [0, 2, 1])

    def test_after_drop_none(self):
        self.assertEqual(last(job(), job(), goal(0, 1), drop(0, 1), events()), [0])

    def test_the_order_is_that_of_the_numbers_not_of_the_goals(self):
        self.assertEqual(last(*[job()] * 12, goal(11, 2), goal(10, 0), events()), [0, 2, 0, 2, 2, 2, 10, 2, 11])

    def test_64_goals(self):
        expected = [0]
        for number in range(64):
            expected.extend([2, number])
        self.assertEqual(last(*[job()] * 64, goal(*range(64)), events()), expected)

    def test_asking_changes_nothing(self):
        self.assertEqual(ask(job(), goal(0), events(), events())[2:], [[0, 2, 0], [0, 2, 0]])
        house = house_of({}, {"needs": [0]}, goals=[1])
        go(house, (ANSWER, 1))
        before = picture(house)
        self.assertEqual(list_events(house), [0, 2, 0])
        self.assertEqual(picture(house), before)

    def test_the_example_of_the_document(self):
        calls = [job(), job(0, 1, 1, [0]), job(1, 0, 1, [1]), job(0, 0, 2, [0, 1]), goal(3), events()]
        self.assertEqual(ask(*calls), [[0], [1], [2], [3], [0], [0, 2, 3]])


class TheExample(unittest.TestCase):
    def test_the_events_that_happen(self):
        house = house_of({}, {"failing": 1, "needs": [0]}, {"cached": 1, "needs": [1]}, {"weight": 2, "needs": [0, 1]},
                         goals=[3])
        happened = []
        while not is_at_rest(house):
            happened.append(possible_events(house)[0])
            happen(house, happened[-1])
        self.assertEqual(happened, [(2, 3), (2, 0), (1, 0), (0, 0), (2, 1), (1, 1), (0, 1)])
        self.assertEqual([job.cause for job in house.jobs], [None, 1, None, 1])
        add_goals(house, [2])
        self.assertEqual(list_events(house), [0, 2, 2])
        go(house, (ANSWER, 2))
        self.assertTrue(is_at_rest(house))


class OrderOfKinds(unittest.TestCase):
    def test_ends_then_starts_then_answers_each_by_number(self):
        house = house_of({}, {}, {}, {}, {}, {}, goals=range(6), workers=4)
        go(house, (ANSWER, 5), (ANSWER, 4), (START, 5), (START, 4), (ANSWER, 3), (ANSWER, 2))
        self.assertEqual(list_events(house), [0, 0, 4, 0, 5, 1, 2, 1, 3, 2, 0, 2, 1])


class Wanted(unittest.TestCase):
    def test_needs_are_wanted_once_the_answer_is_not_cached(self):
        house = house_of({}, {"needs": [0]}, {"needs": [1]}, goals=[2])
        self.assertEqual(wanted_marks(house), [False, False, True])
        go(house, (ANSWER, 2))
        self.assertEqual(wanted_marks(house), [False, True, True])
        go(house, (ANSWER, 1))
        self.assertEqual(wanted_marks(house), [True, True, True])

    def test_what_only_a_cached_job_needs_is_never_wanted(self):
        house = house_of({}, {"cached": 1, "needs": [0]}, goals=[1])
        go(house, (ANSWER, 1))
        self.assertEqual(wanted_marks(house), [False, False])
        self.assertTrue(is_at_rest(house))

    def test_an_ended_job_is_not_wanted_and_wants_nothing(self):
        house = house_of({"failing": 1}, {}, {"needs": [0, 1]}, goals=[2, 0])
        go(house, (ANSWER, 2), (ANSWER, 1))
        build(house, 0)
        self.assertEqual(wanted_marks(house), [False, True, True])
        go(house, (START, 1), (END, 1))
        self.assertEqual(wanted_marks(house), [False, False, False])

    def test_needs_of_a_dropped_job_are_not_wanted(self):
        house = house_of({}, {"needs": [0]}, goals=[1])
        go(house, (ANSWER, 1))
        drop_goals(house, [1])
        self.assertEqual(wanted_marks(house), [False, False])

    def test_needs_of_a_job_that_runs_on_unwanted_are_not_wanted(self):
        house = house_of({}, {"needs": [0]}, goals=[1])
        go(house, (ANSWER, 1))
        build(house, 0)
        go(house, (START, 1))
        drop_goals(house, [1])
        self.assertEqual(wanted_marks(house), [False, False])


class Starts(unittest.TestCase):
    def test_only_what_is_answered(self):
        house = house_of({}, goals=[0])
        self.assertEqual(possible_events(house), [(ANSWER, 0)])
        go(house, (ANSWER, 0))
        self.assertEqual(possible_events(house), [(START, 0)])

    def test_not_what_is_cached(self):
        house = house_of({"cached": 1, "failing": 1}, goals=[0])
        go(house, (ANSWER, 0))
        self.assertEqual(possible_events(house), [])

    def test_not_what_is_wanted_no_more(self):
        house = house_of({}, goals=[0])
        go(house, (ANSWER, 0))
        drop_goals(house, [0])
        self.assertEqual(possible_events(house), [])

    def test_not_what_is_running(self):
        house = house_of({}, goals=[0], workers=8)
        go(house, (ANSWER, 0), (START, 0))
        self.assertEqual(possible_events(house), [(END, 0)])

    def test_only_if_all_needs_are_there(self):
        house = house_of({"cached": 1}, {}, {"needs": [0, 1]}, goals=[2])
        go(house, (ANSWER, 2))
        self.assertNotIn((START, 2), possible_events(house))
        go(house, (ANSWER, 0), (ANSWER, 1), (START, 1))
        self.assertNotIn((START, 2), possible_events(house))
        go(house, (END, 1))
        self.assertEqual(possible_events(house), [(START, 2)])

    def test_a_failed_need_is_not_there(self):
        house = house_of({"failing": 1}, {}, {"needs": [0, 1]}, goals=[2])
        go(house, (ANSWER, 2))
        build(house, 0)
        self.assertEqual(possible_events(house), [(ANSWER, 1)])


class FreeWorkers(unittest.TestCase):
    def test_as_many_free_as_the_weight(self):
        house = house_of({"weight": 2}, {"weight": 3}, {"weight": 2}, goals=[0, 1, 2], workers=4)
        go(house, (ANSWER, 0), (ANSWER, 1), (ANSWER, 2))
        self.assertEqual(possible_events(house), [(START, 0), (START, 1), (START, 2)])
        go(house, (START, 0))
        self.assertEqual(free_workers(house), 2)
        self.assertEqual(possible_events(house), [(END, 0), (START, 2)])
        go(house, (START, 2))
        self.assertEqual(free_workers(house), 0)
        go(house, (END, 0))
        self.assertEqual(possible_events(house), [(END, 2)])
        go(house, (END, 2))
        self.assertEqual(possible_events(house), [(START, 1)])

    def test_all_workers_if_the_weight_is_more(self):
        house = house_of({"weight": 8}, {}, goals=[0, 1], workers=2)
        go(house, (ANSWER, 0), (ANSWER, 1), (START, 1))
        self.assertEqual(possible_events(house), [(END, 1)])
        go(house, (END, 1), (START, 0))
        self.assertEqual(free_workers(house), 0)
        set_workers(house, 5)
        self.assertEqual(free_workers(house), 3)

    def test_none_if_running_jobs_take_more_than_there_are(self):
        house = house_of({"weight": 5}, {}, goals=[0, 1], workers=8)
        go(house, (ANSWER, 0), (ANSWER, 1), (START, 0))
        set_workers(house, 3)
        self.assertEqual(free_workers(house), 0)
        self.assertEqual(possible_events(house), [(END, 0)])
        set_workers(house, 6)
        self.assertEqual(possible_events(house), [(END, 0), (START, 1)])


class Blocked(unittest.TestCase):
    def blocked_house(self):
        house = house_of({"failing": 1}, {}, {}, {}, goals=[0, 1, 2, 3], workers=2)
        go(house, (ANSWER, 0), (ANSWER, 1), (ANSWER, 2), (START, 0), (START, 1), (END, 0))
        return house

    def test_only_ends_may_happen(self):
        house = self.blocked_house()
        self.assertEqual(possible_events(house), [(END, 1), (START, 2), (ANSWER, 3)])
        set_keep(house, 0)
        self.assertEqual(possible_events(house), [(END, 1)])
        self.assertFalse(is_at_rest(house))
        go(house, (END, 1))
        self.assertTrue(is_at_rest(house))

    def test_by_a_failed_job_that_is_no_goal(self):
        house = self.blocked_house()
        drop_goals(house, [0])
        set_keep(house, 0)
        self.assertEqual(possible_events(house), [(END, 1)])

    def test_settling_goes_on(self):
        house = house_of({"failing": 1}, {"needs": [0]}, {}, {"needs": [0, 2]}, goals=[1, 3], workers=2, keep=0)
        go(house, (ANSWER, 1), (ANSWER, 3), (ANSWER, 2), (ANSWER, 0), (START, 0), (START, 2), (END, 0))
        self.assertEqual([job.cause for job in house.jobs], [0, 0, None, None])
        go(house, (END, 2))
        self.assertEqual([job.cause for job in house.jobs], [0, 0, None, 0])


class Rest(unittest.TestCase):
    def test_a_new_house_is_at_rest(self):
        self.assertTrue(is_at_rest(House()))

    def test_a_house_is_at_rest_when_all_goals_are_ended(self):
        house = house_of({}, {}, goals=[1])
        self.assertFalse(is_at_rest(house))
        build(house, 1)
        self.assertTrue(is_at_rest(house))

    def test_a_running_job_is_no_rest(self):
        house = house_of({}, goals=[0])
        go(house, (ANSWER, 0), (START, 0))
        drop_goals(house, [0])
        self.assertFalse(is_at_rest(house))


if __name__ == "__main__":
    unittest.main()
