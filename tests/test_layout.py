"""The interface: how calls are laid out and how answers are given back."""

import unittest

import scheduledhouse.house
from scheduledhouse.house import UnknownCall, answers, read_call
from tests.helper import ask, counts, drop, events, fix, forget, goal, job, keep, lose, run, status, workers


class OneCall(unittest.TestCase):
    def test_each_call_alone(self):
        self.assertEqual(answers([0, 0, 0, 1, 0]), [1, 0])
        self.assertEqual(answers([1, 8]), [1, 0])
        self.assertEqual(answers([2, 0]), [1, 0])
        self.assertEqual(answers([3, 0]), [1, 0])
        self.assertEqual(answers([4, 0]), [1, 0])
        self.assertEqual(answers([5]), [1, 0])
        self.assertEqual(answers([6, 0]), [1, 0])
        self.assertEqual(answers([6, 3, 0, 5, 9]), [1, 0])
        self.assertEqual(answers([9]), [10, 0, 0, 0, 0, 0, 0, 0, 1, 0, 1])
        self.assertEqual(answers([11]), [1, 0])

    def test_those_that_need_a_job(self):
        self.assertEqual(answers([0, 0, 0, 1, 0, 8, 0]), [1, 0, 1, 0])
        self.assertEqual(answers([0, 0, 0, 1, 0, 10, 0]), [1, 0, 1, 0])
        self.assertEqual(answers([0, 0, 0, 1, 0, 3, 1, 0, 6, 2, 0, 0, 7, 0]), [1, 0, 1, 0, 5, 0, 2, 0, 1, 0, 1, 1])

    def test_each_refusal_alone(self):
        self.assertEqual(answers([0, 2, 0, 1, 0]), [1, -2])
        self.assertEqual(answers([0, 0, 0, 1, 1, 0]), [1, -1])
        self.assertEqual(answers([1, 9]), [1, -2])
        self.assertEqual(answers([2, 2]), [1, -2])
        self.assertEqual(answers([3, 1, 0]), [1, -1])
        self.assertEqual(answers([3, 65] + [0] * 65), [1, -3])
        self.assertEqual(answers([4, 1, 0]), [1, -1])
        self.assertEqual(answers([4, 65] + [0] * 65), [1, -3])
        self.assertEqual(answers([6, 513] + [0] * 513), [1, -3])
        self.assertEqual(answers([6, 1, -1]), [1, -2])
        self.assertEqual(answers([7, 0]), [1, -1])
        self.assertEqual(answers([0, 0, 0, 1, 0, 7, 0]), [1, 0, 1, -4])
        self.assertEqual(answers([8, 0]), [1, -1])
        self.assertEqual(answers([10, 0]), [1, -1])

    def test_the_function_is_where_the_document_says(self):
        self.assertEqual(scheduledhouse.house.answers([5]), [1, 0])


class ManyCalls(unittest.TestCase):
    CALLS = [0, 1, 0, 3, 0, 0, 0, 1, 8, 2, 0, 0, 1, 9, 1, 8, 2, 0, 3, 2, 1, 0, 5, 4, 1, 0, 3, 1, 7, 5, 4, 0, 11]
    GIVEN = [1, 0, 1, 1, 1, -2, 1, 0, 1, 0, 1, 0, 5, 0, 2, 0, 2, 1, 1, 0, 1, -1, 3, 0, 2, 1, 1, 0, 1, 0]

    def test_each_answer_has_its_count_ahead(self):
        self.assertEqual(answers(self.CALLS), self.GIVEN)

    def test_numbers_within_a_call_are_no_calls(self):
        # Each row and number here would be read as another call if a place were off by one.
        self.assertEqual(ask(job(1, 1, 5, []), job(0, 1, 5, [0, 0, 0, 0, 0]), workers(5), keep(1), goal(1, 0, 1, 0),
                             drop(0, 0, 0, 0, 0), events(), forget(), events()),
                         [[0], [1], [0], [0], [0], [0], [0, 2, 1], [0], [0, 2, 1]])

    def test_a_refused_call_is_read_to_its_end(self):
        self.assertEqual(ask(job(2, 2, 9, [5, 5, 5]), goal(*[5] * 100), drop(*[5] * 100), workers(11), keep(11),
                             job(), events()),
                         [[-2], [-3], [-3], [-2], [-2], [0], [0]])

    def test_numbers_of_later_calls_are_no_calls_either(self):
        self.assertEqual(ask(job(), goal(0), run(5, 5), lose(0), status(0), run(11), fix(0), counts(), status(0)),
                         [[0], [0], [0, 2, 0, 1, 0], [1], [3], [0, 1, 0], [0], [0, 1, 0, 0, 0, 1, 1, 0, 2, 0], [4]])
        self.assertEqual(ask(run(*[5] * 600), run(5, -5, 9), lose(9), status(11), fix(5), job(), events()),
                         [[-3], [-2], [-1], [-1], [-1], [0], [0]])

    def test_empty_rows(self):
        self.assertEqual(ask(job(needs=[]), goal(), drop(), goal(), job(needs=[]), events()),
                         [[0], [0], [0], [0], [1], [0]])

    def test_rows_of_100_numbers(self):
        self.assertEqual(ask(job(), job(needs=[0] * 100), goal(*[0] * 100), drop(*[0] * 100), events()),
                         [[0], [1], [-3], [-3], [0]])

    def test_400_calls(self):
        self.assertEqual(answers([5] * 400), [1, 0] * 400)
        given = ask(*[job()] * 64, goal(*range(64)), *[events()] * 335)
        self.assertEqual(len(given), 400)
        self.assertEqual([len(answer) for answer in given[65:]], [129] * 335)

    def test_17000_numbers(self):
        row = [0] * 100
        calls = job() + (goal(*row) + drop(*row)) * 83
        self.assertLessEqual(len(calls), 17000)
        self.assertEqual(answers(calls), [1, 0] + [1, -3] * 166)

    def test_17000_numbers_of_schedules(self):
        # Eight of 64 failing jobs run at once; each forget lets all of them be started and ended again.
        calls = job(0, 1) * 64 + workers(8) + goal(*range(64)) + run(*[0] * 512)
        times = 120
        calls += (forget() + run(*range(128))) * times
        self.assertLessEqual(len(calls), 17000)
        given = answers(calls + counts())
        self.assertEqual(given[-10:], [0, 64, 0, 0, 64, 0, 0, 8, 64 * (times + 1), 1])
        self.assertEqual(given.count(257), times)


class NothingKept(unittest.TestCase):
    ALL = [*ManyCalls.CALLS, 0, 0, 1, 1, 1, 1, 3, 1, 2, 6, 4, 0, 10 ** 18, 0, 7, 7, 1, 7, 7, 8, 1, 8, 2, 9, 10, 2, 6, 3,
           1, 2, 3, 6, 2, 0, -1, 11, 9, 5]

    def test_what_is_handed_in_stays(self):
        for told in (ManyCalls.CALLS, self.ALL):
            calls = list(told)
            answers(calls)
            self.assertEqual(calls, told)
            self.assertEqual({type(number) for number in calls}, {int})

    def test_what_is_handed_in_is_not_changed_for_a_while_either(self):
        class Watched(list):
            def refuse(self, *told):
                raise AssertionError("the list is changed")

            append = extend = insert = pop = remove = clear = sort = reverse = refuse
            __setitem__ = __delitem__ = __iadd__ = __imul__ = refuse

        self.assertEqual(answers(Watched(self.ALL)), answers(list(self.ALL)))

    def test_twice_the_same(self):
        for told in (ManyCalls.CALLS, self.ALL):
            calls = list(told)
            first = answers(calls)
            self.assertEqual(answers(calls), first)
            answers([0, 0, 1, 8, 0, 1, 8, 2, 0, 3, 1, 0, 6, 3, 0, 0, 0])
            self.assertEqual(answers(calls), first)

    def test_each_list_has_a_new_house(self):
        answers(job(0, 1) + job() + goal(0, 1) + workers(8) + keep(0) + run(0, 0, 0, 0))
        self.assertEqual(answers(events() + counts() + job() + status(0)),
                         [1, 0, 10, 0, 0, 0, 0, 0, 0, 0, 1, 0, 1, 1, 0, 1, 0])

    def test_what_is_given_back_is_not_shared(self):
        first = answers([5])
        first.append(7)
        self.assertEqual(answers([5]), [1, 0])

    def test_only_whole_numbers_are_given_back(self):
        for told in (ManyCalls.CALLS, self.ALL):
            given = answers(told)
            self.assertIs(type(given), list)
            self.assertEqual({type(number) for number in given}, {int})


class Reading(unittest.TestCase):
    def read(self, told):
        """Read one call that stands between others."""
        call = read_call([5, 5] + told + [5, 5], 2)
        self.assertEqual(call.behind, 2 + len(told))
        self.assertEqual(call.kind, told[0])
        return call.numbers, call.row

    def test_the_layout_of_each_call(self):
        self.assertEqual(self.read([0, 7, 8, 9, 2, 3, 4]), ([7, 8, 9], [3, 4]))
        for kind in (1, 2, 7, 8, 10):
            self.assertEqual(self.read([kind, 7]), ([7], []), kind)
        for kind in (3, 4, 6):
            self.assertEqual(self.read([kind, 3, 7, 8, 9]), ([], [7, 8, 9]), kind)
            self.assertEqual(self.read([kind, 0]), ([], []), kind)
        for kind in (5, 9, 11):
            self.assertEqual(self.read([kind]), ([], []), kind)


class UnknownNumbers(unittest.TestCase):
    def test_a_number_that_is_no_calls(self):
        for kind in (-1, 12, 10 ** 18, -10 ** 18):
            with self.assertRaises(UnknownCall):
                answers([kind])


if __name__ == "__main__":
    unittest.main()
