"""Promises 2 and 3: workers and keep."""

import unittest

from scheduledhouse.calls import set_keep, set_workers
from scheduledhouse.events import free_workers, possible_events
from scheduledhouse.state import House
from tests.helper import (ANSWER, END, FAR, RANGE, START, ask, build, built, counts, events, go, goal, house_of, job,
                          keep, last, picture, run, statuses, then, workers)


class Workers(unittest.TestCase):
    def test_1_to_8_are_taken(self):
        for count in range(1, 9):
            self.assertEqual(last(workers(count)), [0], count)
            house = House()
            self.assertEqual(set_workers(house, count), [0])
            self.assertEqual(free_workers(house), count)

    def test_others_are_refused_and_what_was_stays(self):
        house = house_of({}, workers=5)
        before = picture(house)
        for count in (0, 9, -1, -8, 64, FAR, -FAR):
            self.assertEqual(last(workers(count)), [RANGE], count)
            self.assertEqual(set_workers(house, count), [RANGE], count)
        self.assertEqual(picture(house), before)
        self.assertEqual(free_workers(house), 5)

    def test_a_new_house_has_1_worker(self):
        self.assertEqual(free_workers(House()), 1)

    def test_one_behind_another(self):
        self.assertEqual(ask(workers(8), workers(9), workers(1)), [[0], [RANGE], [0]])

    def test_running_jobs_go_on_and_take_what_they_took(self):
        house = house_of({"weight": 3}, {"weight": 2}, goals=[0, 1], workers=5)
        go(house, (ANSWER, 0), (ANSWER, 1), (START, 0), (START, 1))
        set_workers(house, 1)
        self.assertEqual(possible_events(house), [(END, 0), (END, 1)])
        self.assertEqual(free_workers(house), 0)
        set_workers(house, 8)
        self.assertEqual(free_workers(house), 3)

    def test_workers_change_no_answer_events(self):
        self.assertEqual(last(job(weight=8), goal(0), workers(8), events()), [0, 2, 0])


class WorkersWhileJobsRun(unittest.TestCase):
    """Jobs of weight 3, 2 and 8, all answered; the first two run and take 5 of 6."""

    CALLS = then([job(weight=3), job(weight=2), job(weight=8), job(), goal(0, 1, 2, 3), workers(6)],
                 (ANSWER, 0), (ANSWER, 1), (ANSWER, 2), (ANSWER, 3), (START, 0), (START, 1))

    def free(self, *calls):
        return last(*self.CALLS, *calls, counts())[7]

    def test_fewer(self):
        self.assertEqual(last(*self.CALLS, events()), [0, 0, 0, 0, 1, 1, 3])
        self.assertEqual(last(*self.CALLS, workers(5), events()), [0, 0, 0, 0, 1])
        self.assertEqual(last(*self.CALLS, workers(1), events()), [0, 0, 0, 0, 1])
        self.assertEqual(statuses([*self.CALLS, workers(1)], 4), [[4], [4], [3], [3]])

    def test_what_they_took_is_taken_until_their_end(self):
        self.assertEqual([self.free(workers(count)) for count in (1, 4, 5, 6, 7, 8)], [0, 0, 0, 1, 2, 3])
        self.assertEqual([self.free(workers(count), run(0)) for count in (1, 2, 3, 8)], [0, 0, 1, 6])
        self.assertEqual([self.free(workers(count), run(1)) for count in (1, 3, 4, 8)], [0, 0, 1, 5])

    def test_a_heavy_job_waits_for_all_the_workers_there_are_now(self):
        self.assertEqual(last(*self.CALLS, workers(2), run(0), events()), [0, 0, 1])
        self.assertEqual(last(*self.CALLS, workers(2), run(0, 0), events()), [0, 1, 2, 1, 3])
        self.assertEqual(self.free(workers(2), run(0, 0, 0)), 0)
        self.assertEqual(self.free(workers(2), run(0, 0, 0), workers(8)), 6)

    def test_more(self):
        calls = then([job(weight=8), job(weight=2), job(weight=3), goal(0, 1, 2), workers(2)],
                     (ANSWER, 0), (ANSWER, 1), (ANSWER, 2), (START, 0))
        self.assertEqual(last(*calls, events()), [0, 0, 0])
        self.assertEqual(last(*calls, workers(3), events()), [0, 0, 0])
        self.assertEqual(last(*calls, workers(4), events()), [0, 0, 0, 1, 1])
        self.assertEqual(last(*calls, workers(5), events()), [0, 0, 0, 1, 1, 1, 2])

    def test_back_and_forth_is_as_if_nothing_had_been(self):
        wanted = [events(), counts(), run(*[3] * 20)]
        self.assertEqual(ask(*self.CALLS, workers(1), workers(8), workers(6), *wanted)[-3:],
                         ask(*self.CALLS, *wanted)[-3:])

    def test_a_refused_call_leaves_them(self):
        for count in (0, 9, -1, FAR, -FAR):
            self.assertEqual(ask(*self.CALLS, workers(count), counts())[-2:], [[RANGE], [0, 4, 0, 0, 0, 2, 4, 1, 2, 0]])


class Keep(unittest.TestCase):
    def test_0_and_1_are_taken(self):
        self.assertEqual(ask(keep(0), keep(1), keep(1), keep(0)), [[0]] * 4)

    def test_others_are_refused_and_what_was_stays(self):
        for was in (0, 1):
            house = house_of({}, keep=was)
            before = picture(house)
            for mark in (2, -1, 3, FAR, -FAR):
                self.assertEqual(last(keep(mark)), [RANGE], mark)
                self.assertEqual(set_keep(house, mark), [RANGE], mark)
            self.assertEqual(picture(house), before)

    def test_without_a_failure_a_house_that_stops_goes_on(self):
        self.assertEqual(last(job(failing=1), goal(0), keep(0), events()), [0, 2, 0])

    def test_a_new_house_keeps_going(self):
        house = House()
        self.assertTrue(house.keeps_going)

    def test_a_failure_blocks_a_house_that_stops_until_it_keeps_going(self):
        house = house_of({"failing": 1}, {}, goals=[0, 1])
        build(house, 0)
        self.assertEqual(possible_events(house), [(ANSWER, 1)])
        set_keep(house, 0)
        self.assertEqual(possible_events(house), [])
        set_keep(house, 2)
        self.assertEqual(possible_events(house), [])
        set_keep(house, 1)
        self.assertEqual(possible_events(house), [(ANSWER, 1)])

    def test_through_answers(self):
        calls = built([job(0, 1), job(), goal(0, 1)], 0)
        self.assertEqual(ask(*calls, events(), keep(0), events(), keep(2), events(), keep(1), keep(-1), events())[-8:],
                         [[0, 2, 1], [0], [0], [RANGE], [0], [0], [RANGE], [0, 2, 1]])


if __name__ == "__main__":
    unittest.main()
