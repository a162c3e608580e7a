"""The answers beside a second telling of the document's words, sentence by sentence, on many made-up lists of calls."""

import random
import unittest

from tests.helper import (FAR, IDLE, JOB, LIMIT, RANGE, ask, counts, drop, events, fix, forget, goal, job, keep, lose, run,
                          status, workers)


class Model:
    """Sets of numbers in place of objects; wanted is told anew whenever it is asked."""

    def __init__(self):
        self.marks = []
        self.goals, self.answered, self.built, self.fetched = set(), set(), set(), set()
        self.fixed = set()
        self.causes, self.taken, self.losses = {}, {}, {}
        self.workers, self.keep, self.starts = 1, 1, 0

    def there(self, j):
        return j in self.built or j in self.fetched

    def ended(self, j):
        return self.there(j) or j in self.causes

    def wanted(self, j):
        if self.ended(j):
            return False
        if j in self.goals:
            return True
        return any(self.marks[k][0] == 0 and k in self.answered and j in self.marks[k][3] and self.wanted(k)
                   for k in range(j + 1, len(self.marks)))

    def free(self):
        return max(self.workers - sum(self.taken.values()), 0)

    def may_start(self, j):
        cached, failing, weight, needs = self.marks[j]
        return (self.wanted(j) and j in self.answered and cached == 0 and j not in self.taken
                and all(self.there(need) for need in needs) and self.free() >= min(weight, self.workers))

    def possible(self):
        numbers = range(len(self.marks))
        found = [(0, j) for j in numbers if j in self.taken]
        if self.keep == 1 or not self.causes:
            found += [(1, j) for j in numbers if self.may_start(j)]
            found += [(2, j) for j in numbers if self.wanted(j) and j not in self.answered]
        return found

    def happen(self, kind, j):
        cached, failing, weight, needs = self.marks[j]
        if kind == 0:
            self.taken.pop(j)
            if failing == 1 and j not in self.fixed:
                self.causes[j] = j
            else:
                self.built.add(j)
        elif kind == 1:
            self.taken[j] = min(weight, self.workers)
            self.starts += 1
        else:
            self.answered.add(j)
            if cached == 1:
                self.fetched.add(j)
        self.settle()

    def settle(self):
        for j, (cached, failing, weight, needs) in enumerate(self.marks):
            failed = [self.causes[need] for need in needs if need in self.causes]
            if (self.wanted(j) and j in self.answered and cached == 0 and j not in self.taken
                    and all(self.ended(need) for need in needs) and failed):
                self.causes[j] = min(failed)

    def no_job(self, *numbers):
        return not set(numbers) <= set(range(len(self.marks)))

    # The calls, each with what it answers.

    def job(self, cached, failing, weight, needs):
        if cached not in (0, 1) or failing not in (0, 1) or weight not in range(1, 9):
            return [RANGE]
        if self.no_job(*needs):
            return [JOB]
        if len(self.marks) == 64:
            return [LIMIT]
        self.marks.append((cached, failing, weight, set(needs)))
        return [len(self.marks) - 1]

    def set_workers(self, n):
        if n not in range(1, 9):
            return [RANGE]
        self.workers = n
        return [0]

    def set_keep(self, n):
        if n not in (0, 1):
            return [RANGE]
        self.keep = n
        return [0]

    def goal(self, *jobs):
        if len(jobs) > 64:
            return [LIMIT]
        if self.no_job(*jobs):
            return [JOB]
        self.goals |= set(jobs)
        self.settle()
        return [0]

    def drop(self, *jobs):
        if len(jobs) > 64:
            return [LIMIT]
        if self.no_job(*jobs):
            return [JOB]
        self.goals -= set(jobs)
        return [0]

    def events(self):
        return [0] + [number for event in self.possible() for number in event]

    def run(self, *schedule):
        if len(schedule) > 512:
            return [LIMIT]
        if any(n < 0 for n in schedule):
            return [RANGE]
        answer = [0]
        for n in schedule:
            possible = self.possible()
            if not possible:
                break
            event = possible[n % len(possible)]
            self.happen(*event)
            answer += event
        return answer

    def lose(self, j):
        if self.no_job(j):
            return [JOB]
        if j not in self.taken:
            return [IDLE]
        self.taken.pop(j)
        self.losses[j] = self.losses.get(j, 0) + 1
        if self.losses[j] == 3:
            self.causes[j] = j
        self.settle()
        return [self.losses[j]]

    def status(self, j):
        if self.no_job(j):
            return [JOB]
        if j in self.causes:
            return [7, self.causes[j]]
        told = [(6, j in self.fetched), (5, j in self.built), (4, j in self.taken), (0, not self.wanted(j)),
                (1, j not in self.answered), (2, not all(self.there(need) for need in self.marks[j][3])), (3, True)]
        return [next(number for number, holds in told if holds)]

    def counts(self):
        return [0, len(self.marks), len(self.built), len(self.fetched), len(self.causes), len(self.taken),
                len([j for j in range(len(self.marks)) if self.wanted(j)]), self.free(), self.starts,
                0 if self.possible() else 1]

    def fix(self, j):
        if self.no_job(j):
            return [JOB]
        self.fixed.add(j)
        return self.forget()

    def forget(self):
        self.causes.clear()
        self.losses.clear()
        return [0]


class Story:
    """A made-up list of calls, and beside each what the model answers."""

    def __init__(self, seed):
        self.chance = random.Random(seed)
        self.model = Model()
        self.calls, self.expected = [], []

    def say(self, call, answer):
        self.calls.append(call)
        self.expected.append(answer)

    def wrong(self):
        return self.chance.choice([-1, -2, len(self.model.marks), 64, FAR, -FAR])

    def one(self):
        """A job's number, now and then one that is no job's."""
        if not self.model.marks or self.chance.random() < 0.05:
            return self.wrong()
        return self.chance.randrange(len(self.model.marks))

    def some(self, most):
        return [self.one() for number in range(self.chance.randrange(most + 1))]

    def add(self):
        chance = self.chance
        marks = (int(chance.random() < 0.2), int(chance.random() < 0.25), chance.randint(1, 8), self.some(3))
        if chance.random() < 0.05:
            place = chance.randrange(3)
            marks = marks[:place] + (chance.choice([-1, 9, FAR, -FAR]),) + marks[place + 1:]
        self.say(job(*marks), self.model.job(*marks))

    def change(self):
        chance, model = self.chance, self.model
        kind = chance.randrange(10)
        if kind < 4:
            row = self.some(4) if chance.random() < 0.97 else [0] * chance.randint(63, 66)
            self.say(goal(*row), model.goal(*row))
        elif kind < 6:
            row = self.some(2) if chance.random() < 0.97 else [0] * chance.randint(63, 66)
            self.say(drop(*row), model.drop(*row))
        elif kind < 8:
            n = chance.choice([0, 1, 1, 2, 3, 4, 5, 6, 7, 8, 9])
            self.say(workers(n), model.set_workers(n))
        else:
            n = chance.choice([0, 1, 1, 1, 1, 2, -1])
            self.say(keep(n), model.set_keep(n))

    def go_on(self):
        chance, model = self.chance, self.model
        schedule = [chance.choice([0, 1, chance.randrange(10), chance.randrange(FAR)])
                    for number in range(chance.choice([0, 1, 2, 3, 5, 8]))]
        if chance.random() < 0.05:
            schedule = [chance.randrange(9)] * chance.randint(511, 514)
        if chance.random() < 0.1:
            schedule.insert(chance.randint(0, len(schedule)), chance.choice([-1, -FAR]))
        self.say(run(*schedule), model.run(*schedule))

    def one_event(self):
        """Mostly something else than an end, so that jobs run beside one another and are lost."""
        chance, possible = self.chance, self.model.possible()
        others = [event for event in possible if event[0] != 0]
        if others and chance.random() < 0.8:
            n = possible.index(chance.choice(others)) + len(possible) * chance.randrange(10 ** 15)
        else:
            n = chance.randrange(FAR)
        self.say(run(n), self.model.run(n))

    def disturb(self):
        chance, model = self.chance, self.model
        # The one that was lost most often, so that a third loss comes about now and then.
        often = max(sorted(model.taken), key=lambda j: model.losses.get(j, 0), default=0)
        j = often if model.taken and chance.random() < 0.8 else self.one()
        self.say(lose(j), model.lose(j))

    def mend(self):
        if self.chance.random() < 0.5:
            j = self.one()
            self.say(fix(j), self.model.fix(j))
        else:
            self.say(forget(), self.model.forget())

    def step(self):
        """What may come next; at rest rather what lets something happen again."""
        if not self.model.possible():
            return self.chance.choice([self.add, self.change, self.change, self.mend, self.look, self.go_on])
        if self.model.taken and self.chance.random() < 0.2:
            return self.disturb
        often = [self.one_event] * 8 + [self.look] * 3 + [self.change] * 2
        return self.chance.choice([*often, self.add, self.go_on, self.disturb])

    def look(self):
        kind = self.chance.randrange(4)
        if kind == 0:
            self.say(counts(), self.model.counts())
        elif kind == 1:
            self.say(events(), self.model.events())
        else:
            j = self.one()
            self.say(status(j), self.model.status(j))

    def tell(self, count):
        """Make up that many calls, and look at everything behind them."""
        for number in range(count):
            self.step()()
        self.say(counts(), self.model.counts())
        self.say(events(), self.model.events())
        for j in range(len(self.model.marks)):
            self.say(status(j), self.model.status(j))


class BesideTheModel(unittest.TestCase):
    def compare(self, seed, count):
        story = Story(seed)
        story.tell(count)
        given = ask(*story.calls)
        for place, answer in enumerate(given):
            self.assertEqual(answer, story.expected[place], (seed, place, story.calls[:place + 1]))
        return zip([call[0] for call in story.calls], given)

    def test_many_lists_of_calls(self):
        seen = set()
        for seed in range(150):
            for kind, answer in self.compare(seed, 40 + seed):
                seen.add((kind, min(answer[0], 0) if kind == 0 else answer[0]))
        firsts = {0: [JOB, RANGE, 0], 1: [RANGE, 0], 2: [RANGE, 0], 3: [JOB, LIMIT, 0], 4: [JOB, LIMIT, 0], 5: [0],
                  6: [LIMIT, RANGE, 0], 7: [IDLE, JOB, 1, 2, 3], 8: [JOB, 0, 1, 2, 3, 4, 5, 6, 7], 9: [0],
                  10: [JOB, 0], 11: [0]}
        # Else the made-up lists would leave something out.
        self.assertEqual(seen, {(kind, first) for kind in firsts for first in firsts[kind]})


if __name__ == "__main__":
    unittest.main()
