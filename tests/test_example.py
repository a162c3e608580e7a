"""The document's example, whole, call by call."""

import unittest

from scheduledhouse.house import answers
from tests.helper import ask, events, goal, job, run, status

STEPS = [
    (job(0, 0, 1), [0]),
    (job(0, 1, 1, [0]), [1]),
    (job(1, 0, 1, [1]), [2]),
    (job(0, 0, 2, [0, 1]), [3]),
    (goal(3), [0]),
    (events(), [0, 2, 3]),
    (run(0, 0, 0, 0, 0, 0, 0, 0), [0, 2, 3, 2, 0, 1, 0, 0, 0, 2, 1, 1, 1, 0, 1]),
    (status(3), [7, 1]),
    (goal(2), [0]),
    (run(0), [0, 2, 2]),
    (status(2), [6]),
]


class TheExample(unittest.TestCase):
    def test_each_call(self):
        calls = [call for call, answer in STEPS]
        for number, answer in enumerate(ask(*calls)):
            self.assertEqual(answer, STEPS[number][1], STEPS[number])

    def test_each_beginning_of_it(self):
        for count in range(1, len(STEPS) + 1):
            given = ask(*[call for call, answer in STEPS[:count]])
            self.assertEqual(given, [answer for call, answer in STEPS[:count]])

    def test_as_one_list_of_numbers(self):
        calls = [0, 0, 0, 1, 0, 0, 0, 1, 1, 1, 0, 0, 1, 0, 1, 1, 1, 0, 0, 0, 2, 2, 0, 1, 3, 1, 3, 5,
                 6, 8, 0, 0, 0, 0, 0, 0, 0, 0, 8, 3, 3, 1, 2, 6, 1, 0, 8, 2]
        self.assertEqual(answers(calls), [1, 0, 1, 1, 1, 2, 1, 3, 1, 0, 3, 0, 2, 3,
                                          15, 0, 2, 3, 2, 0, 1, 0, 0, 0, 2, 1, 1, 1, 0, 1,
                                          2, 7, 1, 1, 0, 3, 0, 2, 2, 1, 6])


if __name__ == "__main__":
    unittest.main()
