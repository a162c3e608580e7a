"""Promise 7: run; and through it the words events, blocked, settling and rest."""

import unittest

from tests.helper import (ANSWER, END, FAR, LIMIT, RANGE, START, ask, built, counts, drop, events, goal, job, keep, last,
                          run, status, statuses, then, workers)

ONE = [job(), goal(0)]
THREE_GOALS = [job(), job(), job(), goal(0, 1, 2)]


class WhatIsRefused(unittest.TestCase):
    def test_more_than_512_numbers(self):
        for count in (513, 514, 600):
            self.assertEqual(last(*ONE, run(*[0] * count)), [LIMIT], count)
        self.assertEqual(last(run(*range(513))), [LIMIT])

    def test_512_numbers(self):
        self.assertEqual(last(run(*[0] * 512)), [0])
        self.assertEqual(last(*ONE, run(*[7] * 512)), [0, 2, 0, 1, 0, 0, 0])
        self.assertEqual(last(*ONE, run(*range(511)), run(*range(512))), [0])

    def test_a_number_below_0(self):
        for wrong in (-1, -2, -512, -FAR):
            for row in ([wrong], [0, wrong], [wrong, 0], [0, 0, wrong, 0], [0] * 511 + [wrong]):
                self.assertEqual(last(*ONE, run(*row)), [RANGE], row)
                self.assertEqual(last(run(*row)), [RANGE], row)

    def test_a_number_below_0_behind_the_rest_is_refused_too(self):
        self.assertEqual(ask(*ONE, run(0, 0, 0, -1), run(0, 0, 0, 0))[2:], [[RANGE], [0, 2, 0, 1, 0, 0, 0]])

    def test_limit_before_range(self):
        self.assertEqual(last(*ONE, run(*[-1] * 513)), [LIMIT])
        self.assertEqual(last(*ONE, run(*[0] * 512, -1)), [LIMIT])
        self.assertEqual(last(*ONE, run(-1, *[0] * 512)), [LIMIT])
        self.assertEqual(last(*ONE, run(-1, *[0] * 511)), [RANGE])

    def test_nothing_has_happened_then(self):
        for row in ([0, 0, -1], [0, 0, 0, -1], [0] * 513, [0] * 600):
            given = ask(*ONE, run(*row), events(), counts(), status(0))
            self.assertEqual(given[3:], [[0, 2, 0], [0, 1, 0, 0, 0, 0, 1, 1, 0, 0], [1]], row)


class WhichEventHappens(unittest.TestCase):
    def test_an_empty_schedule(self):
        self.assertEqual(last(run()), [0])
        self.assertEqual(ask(*ONE, run(), events())[2:], [[0], [0, 2, 0]])

    def test_n_mod_c(self):
        for number in list(range(12)) + [FAR, FAR - 1, FAR - 2, 10 ** 17 + 1]:
            self.assertEqual(last(*THREE_GOALS, run(number)), [0, 2, number % 3], number)
        jobs = [job()] * 64
        for number in (63, 64, 65, 2 ** 32 - 1, 2 ** 53 + 1, 2 ** 59 + 37, FAR, FAR - 1):
            self.assertEqual(last(*jobs, goal(*range(64)), run(number)), [0, 2, number % 64], number)

    def test_c_is_told_anew_for_each_number(self):
        # 3 answers; then a start and 2 answers; then an end and 2 answers; then 2 answers.
        self.assertEqual(last(*THREE_GOALS, run(3, 3, 3, 3)), [0, 2, 0, 1, 0, 0, 0, 2, 2])

    def test_a_number_may_stand_several_times(self):
        # One worker: while 1 runs and all are answered only its end is listed, whatever the number is.
        self.assertEqual(last(*THREE_GOALS, run(1, 1, 1, 1, 1, 1, 1, 1, 1)),
                         [0, 2, 1, 2, 0, 1, 1, 2, 2, 0, 1, 1, 2, 0, 2, 1, 0, 0, 0])

    def test_one_run_or_several(self):
        schedule = [5, 1, 8, 2, 2, 9, 0, 3, 7]
        whole = last(*THREE_GOALS, run(*schedule))
        self.assertEqual(len(whole), 1 + 2 * 9)
        parts = ask(*THREE_GOALS, *[run(number) for number in schedule])[4:]
        self.assertEqual([0] + [number for part in parts for number in part[1:]], whole)

    def test_each_listed_event_may_be_the_one(self):
        calls = then([*[job()] * 6, goal(0, 1, 2, 3, 4, 5), workers(4)], (ANSWER, 5), (ANSWER, 4), (START, 5),
                     (START, 4), (ANSWER, 3), (ANSWER, 2))
        listed = last(*calls, events())
        self.assertEqual(listed, [0, 0, 4, 0, 5, 1, 2, 1, 3, 2, 0, 2, 1])
        for number in range(18):
            place = 1 + 2 * (number % 6)
            self.assertEqual(last(*calls, run(number)), [0] + listed[place:place + 2], number)


class Rest(unittest.TestCase):
    def test_the_run_is_over_at_rest_with_numbers_left(self):
        self.assertEqual(last(*ONE, run(0, 0, 0, 5, 6, 7)), [0, 2, 0, 1, 0, 0, 0])

    def test_a_house_at_rest(self):
        for calls in ([], [job(), job()], [job(), goal(0), drop(0)], built(ONE, 0)):
            self.assertEqual(last(*calls, run(0, 1, 2)), [0])

    def test_numbers_left_are_not_kept_for_the_next_run(self):
        calls = [*THREE_GOALS, job(), job(), run(*[0] * 8, 1, 1, 1), goal(3, 4)]
        self.assertEqual(last(*calls, run(0)), [0, 2, 3])

    def test_a_schedule_may_end_before_the_rest(self):
        self.assertEqual(ask(*ONE, run(0, 0), events(), run(0), events())[2:],
                         [[0, 2, 0, 1, 0], [0, 0, 0], [0, 0, 0], [0]])


class OrderOfEvents(unittest.TestCase):
    def test_ends_starts_answers(self):
        calls = [job(), job(), job(), goal(0, 1, 2), workers(2)]
        self.assertEqual(last(*calls, run(2, 0, 1, 0, 0, 0, 0, 0, 0)),
                         [0, 2, 2, 1, 2, 2, 0, 0, 2, 1, 0, 0, 0, 2, 1, 1, 1, 0, 1])

    def test_needs_come_first(self):
        calls = [job(), job(needs=[0]), job(needs=[1]), goal(2)]
        self.assertEqual(last(*calls, run(*[0] * 9)), [0, 2, 2, 2, 1, 2, 0, 1, 0, 0, 0, 1, 1, 0, 1, 1, 2, 0, 2])

    def test_what_is_cached_is_fetched_and_its_needs_are_left(self):
        calls = [job(), job(1, needs=[0]), job(needs=[1]), goal(2), run(*[0] * 20)]
        self.assertEqual(last(*calls), [0, 2, 2, 2, 1, 1, 2, 0, 2])
        self.assertEqual(statuses(calls, 3), [[0], [6], [5]])

    def test_what_is_ended_is_not_built_again(self):
        calls = [*ONE, run(0, 0, 0), goal(0), drop(0), goal(0)]
        self.assertEqual(ask(*calls, events(), run(0, 0))[-2:], [[0], [0]])


class Blocked(unittest.TestCase):
    CALLS = then([keep(0), workers(2), job(0, 1), job(), job(), job(), goal(0, 1, 2, 3)], (ANSWER, 0), (ANSWER, 1),
                 (ANSWER, 2), (START, 0), (START, 1), (END, 0))

    def test_only_ends_happen(self):
        self.assertEqual(ask(*self.CALLS, events(), run(5, 5, 5), events())[-3:], [[0, 0, 1], [0, 0, 1], [0]])
        self.assertEqual(statuses([*self.CALLS, run(5, 5)], 4), [[7, 0], [5], [3], [1]])

    def test_a_house_that_keeps_going_goes_on(self):
        self.assertEqual(last(*self.CALLS, keep(1), events()), [0, 0, 1, 1, 2, 2, 3])
        calls = [*self.CALLS, run(0), keep(1), run(*[0] * 10)]
        self.assertEqual(statuses(calls, 4), [[7, 0], [5], [5], [5]])

    def test_a_failure_that_nobody_wants_blocks_too(self):
        self.assertEqual(last(*self.CALLS, drop(0), run(1, 1, 1)), [0, 0, 1])

    def test_a_house_that_stops_goes_on_until_a_failure_is_there(self):
        calls = [keep(0), job(0, 1), job(), goal(0, 1)]
        self.assertEqual(last(*calls, run(1, 0, 0, 0, 0, 0)), [0, 2, 1, 1, 1, 0, 1, 2, 0, 1, 0, 0, 0])
        self.assertEqual(last(*calls, run(*[0] * 9)), [0, 2, 0, 1, 0, 0, 0])

    def test_it_is_settled_all_the_same(self):
        calls = then([keep(0), workers(2), job(0, 1), job(needs=[0]), job(), job(needs=[0, 2]), goal(1, 3)],
                     (ANSWER, 1), (ANSWER, 3), (ANSWER, 2), (ANSWER, 0), (START, 0), (START, 2), (END, 0))
        self.assertEqual(statuses(calls, 4), [[7, 0], [7, 0], [4], [2]])
        self.assertEqual(statuses([*calls, run(0)], 4), [[7, 0], [7, 0], [5], [7, 0]])


class Settling(unittest.TestCase):
    def test_several_jobs_in_a_row(self):
        calls = then([job(0, 1), job(needs=[0]), job(needs=[1]), job(needs=[0, 2]), goal(3)],
                     (ANSWER, 3), (ANSWER, 2), (ANSWER, 1), (ANSWER, 0), (START, 0))
        self.assertEqual(statuses(calls, 4), [[4], [2], [2], [2]])
        self.assertEqual(statuses([*calls, run(0)], 4), [[7, 0]] * 4)
        self.assertEqual(last(*calls, run(0, 0, 0)), [0, 0, 0])

    def test_the_whole_row_of_64(self):
        jobs = [job(0, 1)] + [job(needs=[number]) for number in range(63)]
        calls = [*jobs, goal(63), run(*[0] * 512)]
        expected = [0]
        for number in range(63, -1, -1):
            expected.extend([2, number])
        self.assertEqual(last(*calls), expected + [1, 0, 0, 0])
        self.assertEqual(statuses(calls, 64), [[7, 0]] * 64)

    def test_the_least_cause_whatever_came_first(self):
        jobs = [job(0, 1), job(0, 1), job(needs=[1, 0]), goal(2)]
        for order in ([0, 1], [1, 0]):
            calls = built(then(jobs, (ANSWER, 2)), *order)
            self.assertEqual(statuses(calls, 3), [[7, 0], [7, 1], [7, 0]], order)

    def test_the_least_cause_not_that_of_the_least_need(self):
        jobs = [job(0, 1), job(0, 1), job(needs=[0]), job(needs=[1, 2]), goal(3)]
        calls = built(then(jobs, (ANSWER, 3), (ANSWER, 2)), 1, 0)
        self.assertEqual(statuses(calls, 4), [[7, 0], [7, 1], [7, 0], [7, 0]])

    def test_all_needs_must_be_ended(self):
        calls = built(then([job(0, 1), job(), job(needs=[0, 1]), goal(2)], (ANSWER, 2)), 0)
        self.assertEqual(statuses(calls, 3), [[7, 0], [1], [2]])
        self.assertEqual(statuses(built(calls, 1), 3), [[7, 0], [5], [7, 0]])

    def test_behind_an_answer(self):
        calls = built([job(0, 1), job(needs=[0]), goal(0, 1)], 0)
        self.assertEqual(statuses(calls, 2), [[7, 0], [1]])
        self.assertEqual(statuses(then(calls, (ANSWER, 1)), 2), [[7, 0], [7, 0]])

    def test_behind_the_fetching_of_another_need(self):
        calls = built(then([job(0, 1), job(1), job(needs=[0, 1]), goal(2)], (ANSWER, 2)), 0)
        self.assertEqual(statuses(calls, 3), [[7, 0], [1], [2]])
        self.assertEqual(statuses(then(calls, (ANSWER, 1)), 3), [[7, 0], [6], [7, 0]])

    def test_what_is_not_wanted_stays(self):
        calls = then([job(0, 1), job(needs=[0]), goal(0, 1)], (ANSWER, 0), (ANSWER, 1))
        calls = then([*calls, drop(1)], (START, 0), (END, 0))
        self.assertEqual(statuses(calls, 2), [[7, 0], [0]])
        self.assertEqual(statuses([*calls, goal(1)], 2), [[7, 0], [7, 0]])

    def test_what_is_cached_does_not_fail(self):
        calls = built([job(0, 1), job(1, 1, 1, [0]), goal(0, 1)], 0)
        self.assertEqual(statuses(then(calls, (ANSWER, 1)), 2), [[7, 0], [6]])


if __name__ == "__main__":
    unittest.main()
