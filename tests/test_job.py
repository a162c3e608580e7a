"""Promise 1: job."""

import unittest

from scheduledhouse.calls import add_job
from tests.helper import FAR, JOB, LIMIT, RANGE, ask, events, goal, house_of, job, last, picture

FULL = [job() for number in range(64)]


class JobNumbers(unittest.TestCase):
    def test_numbers_go_up_from_0(self):
        self.assertEqual(ask(job(), job(1, 1, 8, [0]), job(needs=[1, 0])), [[0], [1], [2]])

    def test_a_refused_job_takes_no_number(self):
        self.assertEqual(ask(job(), job(weight=9), job(needs=[1]), job()), [[0], [RANGE], [JOB], [1]])

    def test_64_jobs_and_no_65th(self):
        given = ask(*FULL, job(), job())
        self.assertEqual(given[:64], [[number] for number in range(64)])
        self.assertEqual(given[64:], [[LIMIT], [LIMIT]])

    def test_the_64th_job_is_a_job_like_others(self):
        self.assertEqual(last(*FULL, goal(63), events()), [0, 2, 63])
        self.assertEqual(last(*FULL, job(), goal(64)), [JOB])


class JobRange(unittest.TestCase):
    def test_cached(self):
        for cached in (-1, 2, -2, 64, FAR, -FAR):
            self.assertEqual(last(job(cached=cached)), [RANGE], cached)
        for cached in (0, 1):
            self.assertEqual(last(job(cached=cached)), [0], cached)

    def test_failing(self):
        for failing in (-1, 2, -2, 64, FAR, -FAR):
            self.assertEqual(last(job(failing=failing)), [RANGE], failing)
        for failing in (0, 1):
            self.assertEqual(last(job(failing=failing)), [0], failing)

    def test_weight(self):
        for weight in (0, 9, -1, -8, 10, FAR, -FAR):
            self.assertEqual(last(job(weight=weight)), [RANGE], weight)
        for weight in range(1, 9):
            self.assertEqual(last(job(weight=weight)), [0], weight)


class JobNeeds(unittest.TestCase):
    def test_a_need_that_is_no_job(self):
        for need in (-1, -2, 2, 3, 64, FAR, -FAR):
            self.assertEqual(last(job(), job(), job(needs=[need])), [JOB], need)
            self.assertEqual(last(job(), job(), job(needs=[0, 1, need])), [JOB], need)
            self.assertEqual(last(job(), job(), job(needs=[need, 0, 1])), [JOB], need)

    def test_the_first_job_can_need_nothing(self):
        self.assertEqual(last(job(needs=[0])), [JOB])
        self.assertEqual(last(job(needs=[])), [0])

    def test_a_need_may_stand_several_times(self):
        self.assertEqual(last(job(), job(), job(needs=[1, 0, 1, 1, 0])), [2])

    def test_needs_are_kept_in_order_and_once(self):
        house = house_of({}, {}, {}, {"needs": [2, 0, 2, 0]})
        self.assertEqual(house.jobs[3].needs, [0, 2])

    def test_100_needs(self):
        self.assertEqual(last(job(), job(needs=[0] * 100)), [1])
        self.assertEqual(last(*FULL[:60], job(needs=[number % 60 for number in range(100)])), [60])
        self.assertEqual(last(job(), job(needs=[0] * 99 + [1])), [JOB])

    def test_the_list_of_needs_is_not_kept(self):
        needs = [0]
        house = house_of({}, {"needs": needs})
        needs.append(1)
        self.assertEqual(house.jobs[1].needs, [0])


class JobOrderOfRefusals(unittest.TestCase):
    def test_range_before_job(self):
        for wrong in (job(cached=2, needs=[0]), job(failing=-1, needs=[0]), job(weight=0, needs=[0])):
            self.assertEqual(last(wrong), [RANGE])

    def test_range_before_limit(self):
        for wrong in (job(cached=2), job(failing=-1), job(weight=9)):
            self.assertEqual(last(*FULL, wrong), [RANGE])

    def test_job_before_limit(self):
        for need in (-1, 64, 65):
            self.assertEqual(last(*FULL, job(needs=[need])), [JOB])
        self.assertEqual(last(*FULL, job(needs=[63])), [LIMIT])

    def test_all_three(self):
        self.assertEqual(last(*FULL, job(weight=0, needs=[64])), [RANGE])


class JobKept(unittest.TestCase):
    def test_marks_and_weight_are_kept(self):
        house = house_of({"cached": 1, "weight": 8}, {"failing": 1})
        first, second = house.jobs
        self.assertEqual((first.cached, first.failing, first.weight), (True, False, 8))
        self.assertEqual((second.cached, second.failing, second.weight), (False, True, 1))

    def test_a_new_job_is_no_goal_and_nothing_else(self):
        self.assertEqual(last(job(), events()), [0])
        self.assertEqual(last(job(), goal(0), job(), events()), [0, 2, 0])

    def test_a_refused_job_leaves_the_house_as_it_was(self):
        house = house_of(*[{}] * 64, goals=[3])
        before = picture(house)
        for wrong in ((2, 0, 1, []), (0, 2, 1, []), (0, 0, 9, []), (0, 0, 1, [64]), (0, 0, 1, [0])):
            self.assertLess(add_job(house, *wrong)[0], 0)
        self.assertEqual(picture(house), before)


if __name__ == "__main__":
    unittest.main()
