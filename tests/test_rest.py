"""What comes about at rest doesn't hang on the schedule if the house keeps going; and what no schedule can bring."""

import random
import unittest

from tests.helper import (ANSWER, END, FAR, START, ask, counts, fix, forget, goal, job, keep, run, status, workers)


def made_up_jobs(chance, count):
    """The marks of that many jobs: cached, failing, weight, needs."""
    jobs = []
    for number in range(count):
        needs = [need for need in range(number) if chance.random() < 0.3]
        jobs.append((int(chance.random() < 0.2), int(chance.random() < 0.25), chance.randint(1, 8), needs))
    return jobs


def made_up_schedule(chance):
    kind = chance.randrange(4)
    if kind == 0:
        return [chance.randrange(3)] * 512
    if kind == 1:
        return [FAR - number for number in range(512)]
    return [chance.randrange(FAR) for number in range(512)]


def pairs(answer):
    return list(zip(answer[1::2], answer[2::2]))


class AtRest(unittest.TestCase):
    def outcome(self, calls, count, schedule, behind=()):
        """All that status and counts tell at rest."""
        asked = [*calls, run(*schedule), *behind]
        given = ask(*asked, counts(), *[status(number) for number in range(count)])[len(asked):]
        self.assertEqual(given[0][9], 1)
        return given

    def test_the_same_for_every_schedule(self):
        failed = 0
        for seed in range(60):
            chance = random.Random(seed)
            jobs = made_up_jobs(chance, chance.randint(1, 20))
            goals = [number for number in range(len(jobs)) if chance.random() < 0.3] + [len(jobs) - 1]
            calls = [*[job(*marks) for marks in jobs], workers(chance.randint(1, 8)), keep(1), goal(*goals)]
            outcomes = [self.outcome(calls, len(jobs), made_up_schedule(chance)) for times in range(8)]
            self.assertEqual(outcomes, outcomes[:1] * 8, seed)
            failed += outcomes[0][0][4]
        self.assertGreater(failed, 60)

    def test_the_same_behind_forget_and_fix(self):
        for seed in range(30):
            chance = random.Random(seed)
            jobs = made_up_jobs(chance, 14)
            calls = [*[job(*marks) for marks in jobs], workers(chance.randint(1, 8)), goal(13, 12, 11)]
            for again in (forget(), fix(chance.randrange(14))):
                outcomes = [self.outcome(calls, 14, made_up_schedule(chance), [again, run(*made_up_schedule(chance))])
                            for times in range(5)]
                self.assertEqual(outcomes, outcomes[:1] * 5, seed)

    def test_the_same_whatever_the_workers_are_but_for_the_free_ones(self):
        for seed in range(30):
            chance = random.Random(seed)
            jobs = [job(*marks) for marks in made_up_jobs(chance, 14)]
            outcomes = [self.outcome([*jobs, workers(count), goal(13, 12, 11)], 14, made_up_schedule(chance))
                        for count in range(1, 9)]
            self.assertEqual([outcome[0].pop(7) for outcome in outcomes], list(range(1, 9)))
            self.assertEqual(outcomes, outcomes[:1] * 8, seed)

    def test_with_keep_0_it_may_hang_on_the_schedule(self):
        calls = [keep(0), job(0, 1), job(), goal(0, 1)]
        self.assertEqual(self.outcome(calls, 2, [0] * 9)[1:], [[7, 0], [1]])
        self.assertEqual(self.outcome(calls, 2, [1, 0, 0, 0, 0, 0])[1:], [[7, 0], [5]])


class WhatNoScheduleBrings(unittest.TestCase):
    def follow(self, jobs, count, happened):
        """Go along with what happened and look at each event."""
        there, started, asked, running = set(), set(), set(), {}
        for kind, number in happened:
            cached, failing, weight, needs = jobs[number]
            if kind == ANSWER:
                self.assertNotIn(number, asked)
                asked.add(number)
                there |= {number} if cached else set()
            elif kind == START:
                self.assertEqual(cached, 0)
                self.assertIn(number, asked)
                self.assertNotIn(number, started)
                self.assertLessEqual(set(needs), there)
                started.add(number)
                running[number] = min(weight, count)
                self.assertLessEqual(sum(running.values()), count)
            else:
                self.assertEqual(kind, END)
                running.pop(number)
                there |= set() if failing else {number}
        self.assertEqual(running, {})

    def test_nothing_is_begun_too_early_or_twice_or_in_vain(self):
        for seed in range(100):
            chance = random.Random(seed)
            jobs = made_up_jobs(chance, 20)
            count = chance.randint(1, 8)
            calls = [*[job(*marks) for marks in jobs], workers(count), goal(19, 18, 17, 5)]
            self.follow(jobs, count, pairs(ask(*calls, run(*made_up_schedule(chance)))[-1]))


if __name__ == "__main__":
    unittest.main()
