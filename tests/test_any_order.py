"""All 26 calls in any order, beside a second program that keeps the same promises in another way.

The second program keeps those due as a list of numbers, walks the steps of flushing with a row of those that have
ended just now, and goes through an initiator's list class by class.
"""

import random

from tests.helper import GREATEST, LEAST, DeskCase, ask, look, start, submit


NAMES = """begin submit hold letgo change cancel forget tick limit close open start serve drain pick peek finish
requeue order status tests after running counts initiator class_""".split()


class Refusal(Exception):
    pass


def need(holds, refusal):
    if not holds:
        raise Refusal(refusal)


class Second:
    def __init__(self):
        self.begin(500, 10, 60)

    def begin(self, cap, k, a):
        need(cap in range(1, 501) and k in range(1, 1001) and a in range(1, 1000001), -1)
        self.cap, self.k, self.a, self.time, self.given = cap, k, a, 0, 0
        self.jobs, self.due, self.limits, self.shut, self.on = {}, [], {}, set(), {}
        return [0]

    def job(self, number, *states):
        need(number in range(1, 1000000), -1)
        need(number in self.jobs, -4)
        need(not states or self.jobs[number]["state"] in states, -6)
        return self.jobs[number]

    def having(self, *states):
        return [number for number in sorted(self.jobs) if self.jobs[number]["state"] in states]

    def ready(self):
        return [n for n in self.having(0) if not self.jobs[n]["held"] and not self.jobs[n]["tests"]]

    def of_class(self, numbers, class_of):
        return [number for number in numbers if self.jobs[number]["class"] == class_of]

    def rank(self, number):
        return min(15, self.jobs[number]["priority"] + self.jobs[number]["waited"] // self.a)

    def met(self, test):
        state, code = self.jobs[test[0]]["state"], self.jobs[test[0]]["code"]
        return {0: True, 1: state == 2 and code <= test[2], 2: state == 3 or state == 2 and code > test[2],
                3: state == 3}[test[1]]

    def submit(self, class_of, priority, held, name, row):
        need(class_of in range(1, 37) and priority in range(16) and held in (0, 1), -1)
        letters, digits = set(range(65, 91)), set(range(48, 58))
        need(len(name) in range(1, 9) and name[0] in letters and set(name) <= letters | digits, -2)
        need(len(row) in range(0, 25, 3), -2)
        tests = list(zip(row[::3], row[1::3], row[2::3]))
        need(all(j in range(1, 1000000) and kind in range(4) and n in range(4096) for j, kind, n in tests), -1)
        need(all(test[0] in self.jobs for test in tests), -4)
        ended = self.having(2, 3, 4, 5)
        need(all(self.met(test) for test in tests if test[0] in ended), -7)
        need(len(self.jobs) < self.cap and self.given < 999999, -8)
        self.given += 1
        self.jobs[self.given] = {
            "state": 0, "code": 0, "class": class_of, "priority": priority, "held": held, "waited": 0, "passed": 0,
            "name": list(name), "tests": [test for test in tests if test[0] not in ended]}
        return [self.given]

    def hold(self, number, held=1):
        job = self.job(number, 0)
        need(job["held"] != held, -5)
        job["held"] = held
        return [0]

    def letgo(self, number):
        return self.hold(number, 0)

    def change(self, number, class_of, priority):
        need(class_of in range(1, 37) and priority in range(16), -1)
        self.job(number, 0).update({"class": class_of, "priority": priority})
        return [0]

    def end(self, number, state, code):
        ended = []
        steps = [(number, state, code)]
        while steps:
            last, state, code = steps.pop()
            self.jobs[last].update({"state": state, "code": code, "held": 0, "tests": [], "passed": 0})
            self.due = [other for other in self.due if other != last]
            ended.append(last)
            for other in self.having(0):
                asked = [test for test in self.jobs[other]["tests"] if test[0] in ended]
                if not all(self.met(test) for test in asked):
                    steps = [(other, 4, 0)]
                    break
        for other in self.having(0):
            self.jobs[other]["tests"] = [test for test in self.jobs[other]["tests"] if test[0] not in ended]
        return [len(ended) - 1, len(ended) - 1] + sorted(ended[1:])

    def cancel(self, number):
        self.job(number, 0)
        return self.end(number, 5, 0)

    def forget(self, number):
        self.job(number, 2, 3, 4, 5)
        del self.jobs[number]
        return [0]

    def tick(self, n):
        need(n in range(1, 1000001), -1)
        need(self.time + n <= 100000000, -8)
        self.time += n
        for number in self.ready():
            self.jobs[number]["waited"] += n
        return [self.time]

    def limit(self, class_of, n):
        need(class_of in range(1, 37) and n in range(17), -1)
        self.limits[class_of] = n
        return [len(self.of_class(self.having(1), class_of))]

    def close(self, class_of):
        need(class_of in range(1, 37), -1)
        need(class_of not in self.shut, -5)
        self.shut.add(class_of)
        return [0]

    def open(self, class_of):
        need(class_of in range(1, 37), -1)
        need(class_of in self.shut, -5)
        self.shut.remove(class_of)
        return [0]

    def start(self, initiator, classes):
        self.check_list(initiator, classes)
        need(initiator not in self.on, -5)
        self.on[initiator] = {"classes": classes, "draining": 0, "runs": 0}
        return [0]

    def serve(self, initiator, classes):
        self.check_list(initiator, classes)
        need(initiator in self.on, -3)
        self.on[initiator]["classes"] = classes
        return [0]

    def check_list(self, initiator, classes):
        need(initiator in range(1, 17), -1)
        need(len(classes) in range(1, 9) and set(classes) <= set(range(1, 37)), -2)
        need(sorted(set(classes)) == sorted(classes), -2)

    def drain(self, initiator):
        need(initiator in range(1, 17), -1)
        need(initiator in self.on, -3)
        need(not self.on[initiator]["draining"], -5)
        if not self.on[initiator]["runs"]:
            del self.on[initiator]
            return [0]
        self.on[initiator]["draining"] = 1
        return [self.on[initiator]["runs"]]

    def free(self, initiator):
        names = [self.jobs[number]["name"] for number in self.having(1)]
        found = []
        for class_of in self.on[initiator]["classes"]:
            room = len(self.of_class(self.having(1), class_of)) < self.limits.get(class_of, 16)
            if room and class_of not in self.shut:
                ready = self.of_class(self.ready(), class_of)
                ready = [number for number in ready if self.jobs[number]["name"] not in names]
                for rank in range(15, -1, -1):
                    found += [number for number in ready if self.rank(number) == rank]
        return [number for number in self.due if number in found] + [n for n in found if n not in self.due]

    def peek(self, initiator):
        need(initiator in range(1, 17), -1)
        need(initiator in self.on, -3)
        need(not self.on[initiator]["runs"], -5)
        return (self.free(initiator) + [0])[:1]

    def pick(self, initiator):
        number = self.peek(initiator)[0]
        if number:
            for other in sorted(set(self.free(initiator)) - {number}):
                self.jobs[other]["passed"] += 1
                if self.jobs[other]["passed"] >= self.k and other not in self.due:
                    self.due.append(other)
            self.jobs[number].update({"state": 1, "passed": 0})
            self.due = [other for other in self.due if other != number]
            self.on[initiator]["runs"] = number
        return [number]

    def take(self, initiator):
        need(initiator in range(1, 17), -1)
        need(initiator in self.on and self.on[initiator]["runs"], -3)
        number = self.on[initiator]["runs"]
        self.on[initiator]["runs"] = 0
        if self.on[initiator]["draining"]:
            del self.on[initiator]
        return number

    def finish(self, initiator, abend, code):
        need(abend in (0, 1) and code in range(4096), -1)
        return self.end(self.take(initiator), 2 + abend, code)

    def requeue(self, initiator):
        number = self.take(initiator)
        self.jobs[number].update({"state": 0, "held": 1})
        return [number]

    def order(self, class_of):
        need(class_of in range(1, 37), -1)
        ready = self.of_class(self.ready(), class_of)
        row = [number for number in self.due if number in ready]
        for rank in range(15, -1, -1):
            row += [number for number in ready if self.rank(number) == rank and number not in self.due]
        return [len(row), len(row)] + row

    def status(self, number):
        job = self.job(number)
        place = self.due.index(number) + 1 if number in self.due else 0
        return [0, len(job["name"])] + job["name"] + [
            9, job["state"], job["code"], job["class"], job["priority"], self.rank(number), job["held"], job["waited"],
            job["passed"], place]

    def tests(self, number):
        tests = self.job(number)["tests"]
        return [len(tests), 3 * len(tests)] + [part for test in tests for part in test]

    def after(self, number):
        self.job(number)
        row = [n for n in sorted(self.jobs) if number in [test[0] for test in self.jobs[n]["tests"]]]
        return [len(row), len(row)] + row

    def running(self):
        pairs = [(n, self.on[n]["runs"]) for n in sorted(self.on) if self.on[n]["runs"]]
        return [len(pairs), 2 * len(pairs)] + [part for pair in pairs for part in pair]

    def counts(self):
        return [len(self.jobs), 3, len(self.having(0)), len(self.ready()), len(self.having(1))]

    def initiator(self, initiator):
        need(initiator in range(1, 17), -1)
        if initiator not in self.on:
            return [0, 0, 2, 0, 0]
        one = self.on[initiator]
        return [1, len(one["classes"])] + one["classes"] + [2, one["draining"], one["runs"]]

    def class_(self, class_of):
        need(class_of in range(1, 37), -1)
        return [self.limits.get(class_of, 16), 3, int(class_of in self.shut),
                len(self.of_class(self.having(1), class_of)), len(self.of_class(self.having(0), class_of))]

    def answer(self, call):
        rest = call[1:]
        if call[0] == 1:
            size = rest[3]
            rest = rest[:3] + [rest[4:4 + size], rest[5 + size:]]
        if call[0] in (11, 12):
            rest = [rest[0], rest[2:]]
        try:
            return getattr(self, NAMES[call[0]])(*rest)
        except Refusal as refusal:
            return [refusal.args[0]]


class Maker:
    """Makes lists of calls, most of which do something; a job's number is one given lately."""

    def __init__(self, seed):
        self.chance = random.Random(seed)
        self.given = 0
        self.wild = self.chance.choice((0, 2, 10))

    def one(self, *numbers):
        """One of these numbers, or now and then one that is mostly wrong."""
        if self.chance.randrange(100) < self.wild:
            return self.chance.choice((LEAST, -1, 0, 1, 16, 17, 36, 37, 4095, 4096, 999999, 1000000, GREATEST))
        return self.chance.choice(numbers)

    def any_job(self):
        return self.one(*range(max(1, self.given - 12), self.given + 2))

    def test(self):
        return (self.one(*range(max(1, self.given - 4), self.given)), self.one(0, 1, 1, 2, 3), self.one(0, 1, 4095))

    def classes(self):
        row = self.chance.sample((1, 2, 3, 36), self.chance.randrange(1, 5))
        return row + [self.one(0, 1)] if self.chance.randrange(100) < self.wild else row

    def submit(self):
        name = self.chance.choice(("A", "B", "C1", "D", "E23", "ABCDEFGH"))
        how_many = self.chance.choice((0, 0, 1, 1, 2, 8)) if self.given > 1 else 0
        tests = [self.test() for turn in range(how_many)]
        self.given += 1
        if self.chance.randrange(100) < self.wild:
            name = self.chance.choice(("", "1", "a", "ABCDEFGHI"))
        return submit(self.one(1, 2, 3, 36), self.one(0, 1, 2, 14, 15), self.one(0, 0, 0, 1), name, tests)

    def call(self, number):
        if number == 0:
            self.given = 0
            return [0, self.one(20, 500), self.one(1, 1, 2, 3), self.one(1, 2, 5, 1000000)]
        if number == 1:
            return self.submit()
        if number in (11, 12):
            return [number] + start(self.one(1, 2, 3, 16), self.classes())[1:]
        rest = {4: [self.any_job(), self.one(1, 2, 3, 36), self.one(0, 1, 15)], 7: [self.one(1, 1, 2, 5)],
                8: [self.one(1, 2, 3, 36), self.one(0, 1, 2, 16)],
                16: [self.one(1, 2, 3, 16), self.one(0, 0, 1), self.one(0, 0, 1, 2, 4095)], 22: [], 23: []}
        if number in (2, 3, 5, 6, 19, 20, 21):
            return [number, self.any_job()]
        if number in (9, 10, 18, 25):
            return [number, self.one(1, 2, 3, 36)]
        return [number] + rest.get(number, [self.one(1, 2, 3, 16)])

    def calls(self, how_many):
        often = [1] * 24 + [14] * 24 + [16] * 12 + [3, 10, 11, 12] * 3 + [7] * 4
        first = [self.call(number) for number in (0, 11, 11, 11, 1, 1, 1)]
        numbers = list(range(1, 26))
        numbers += [self.chance.choice(often + numbers) for turn in range(how_many - len(first) - 26)]
        self.chance.shuffle(numbers)
        # One more begin, mostly near the list's end.
        numbers.insert(max(self.chance.randrange(len(numbers)), self.chance.randrange(len(numbers))), 0)
        return first + [self.call(number) for number in numbers]


class AnyOrderTest(DeskCase):
    def same(self, calls):
        second = Second()
        for call, told in zip(calls, ask(*calls), strict=True):
            self.assertEqual(told, second.answer(call), (call, calls))
        return second

    def test_four_hundred_calls_with_all_26(self):
        for seed in range(40):
            calls = Maker(seed).calls(400)
            self.assertEqual(len(calls), 400)
            self.assertEqual(len({call[0] for call in calls}), 26, seed)
            self.same(calls)

    def test_all_that_there_is_after_some_calls(self):
        for seed in range(100, 220):
            calls = Maker(seed).calls(40 + seed)
            self.same(calls + look(calls)[-90:] + look(calls)[:60])

    def test_the_lists_reach_what_is_hard_to_reach(self):
        seen = {"due": 0, "flushed": 0, "draining": 0, "several due": 0}
        for seed in range(40):
            second = Second()
            for call in Maker(seed).calls(400):
                told = second.answer(call)
                seen["flushed"] += call[0] == 16 and told[0] > 0
                seen["due"] += call[0] == 14 and len(second.due) > 0
                seen["several due"] += call[0] == 14 and len(second.due) > 2
                seen["draining"] += any(one["draining"] for one in second.on.values())
        self.assertTrue(all(times > 50 for times in seen.values()), seen)
