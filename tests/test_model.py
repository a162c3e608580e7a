"""The house beside a second telling of the document's words, sentence by sentence, on many made-up houses."""

import random
import unittest

from scheduledhouse.calls import add_goals, add_job, drop_goals, forget_failures, set_keep, set_workers
from scheduledhouse.events import free_workers, happen, is_at_rest, possible_events, wanted_marks
from scheduledhouse.state import BUILT, FETCHED, House


class Model:
    """Sets of numbers in place of objects; wanted is told anew whenever it is asked."""

    def __init__(self):
        self.marks = []
        self.goals, self.answered, self.built, self.fetched = set(), set(), set(), set()
        self.causes, self.taken = {}, {}
        self.workers, self.keep = 1, 1

    def there(self, j):
        return j in self.built or j in self.fetched

    def ended(self, j):
        return self.there(j) or j in self.causes

    def wanted(self, j):
        if self.ended(j):
            return False
        if j in self.goals:
            return True
        return any(self.marks[k][0] == 0 and k in self.answered and j in self.marks[k][3] and self.wanted(k)
                   for k in range(j + 1, len(self.marks)))

    def free(self):
        return max(self.workers - sum(self.taken.values()), 0)

    def may_start(self, j):
        cached, failing, weight, needs = self.marks[j]
        return (self.wanted(j) and j in self.answered and cached == 0 and j not in self.taken
                and all(self.there(need) for need in needs) and self.free() >= min(weight, self.workers))

    def events(self):
        numbers = range(len(self.marks))
        found = [(0, j) for j in numbers if j in self.taken]
        if self.keep == 1 or not self.causes:
            found += [(1, j) for j in numbers if self.may_start(j)]
            found += [(2, j) for j in numbers if self.wanted(j) and j not in self.answered]
        return found

    def happen(self, kind, j):
        cached, failing, weight, needs = self.marks[j]
        if kind == 0:
            self.taken.pop(j)
            if failing == 1:
                self.causes[j] = j
            else:
                self.built.add(j)
        elif kind == 1:
            self.taken[j] = min(weight, self.workers)
        else:
            self.answered.add(j)
            if cached == 1:
                self.fetched.add(j)
        self.settle()

    def settle(self):
        for j, (cached, failing, weight, needs) in enumerate(self.marks):
            failed = [self.causes[need] for need in needs if need in self.causes]
            if (self.wanted(j) and j in self.answered and cached == 0 and j not in self.taken
                    and all(self.ended(need) for need in needs) and failed):
                self.causes[j] = min(failed)


def change(chance, house, model):
    """One call, on both."""
    count = len(model.marks)
    some = [chance.randrange(count) for number in range(chance.randrange(4))] if count else []
    kind = chance.choice(["job", "goal", "goal", "drop", "workers", "keep", "forget"])
    if kind == "job" and count < 12:
        marks = (int(chance.random() < 0.2), int(chance.random() < 0.3), chance.randint(1, 8), some)
        add_job(house, *marks)
        model.marks.append(marks)
    elif kind == "goal":
        add_goals(house, some)
        model.goals.update(some)
        model.settle()
    elif kind == "drop":
        drop_goals(house, some)
        model.goals.difference_update(some)
    elif kind == "workers":
        model.workers = chance.randint(1, 8)
        set_workers(house, model.workers)
    elif kind == "keep":
        model.keep = int(chance.random() < 0.7)
        set_keep(house, model.keep)
    elif kind == "forget" and chance.random() < 0.3:
        forget_failures(house)
        model.causes.clear()


class BesideTheModel(unittest.TestCase):
    def compare(self, house, model):
        numbers = range(len(model.marks))
        self.assertEqual(possible_events(house), model.events())
        self.assertEqual(is_at_rest(house), model.events() == [])
        self.assertEqual(wanted_marks(house), [model.wanted(j) for j in numbers])
        self.assertEqual(free_workers(house), model.free())
        self.assertEqual([job.cause for job in house.jobs], [model.causes.get(j) for j in numbers])
        self.assertEqual([job.outcome == BUILT for job in house.jobs], [j in model.built for j in numbers])
        self.assertEqual([job.outcome == FETCHED for job in house.jobs], [j in model.fetched for j in numbers])

    def test_many_houses(self):
        seen = set()
        for seed in range(150):
            chance = random.Random(seed)
            house, model = House(), Model()
            for step in range(80):
                possible = model.events()
                if possible and chance.random() < 0.65:
                    event = chance.choice(possible)
                    seen.add(event[0])
                    happen(house, event)
                    model.happen(*event)
                else:
                    change(chance, house, model)
                self.compare(house, model)
        self.assertEqual(seen, {0, 1, 2})


if __name__ == "__main__":
    unittest.main()
