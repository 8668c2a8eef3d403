"""Mixed lines of calls against a second, slower telling of the document.

The model goes through every single chain and every row of neighbours, and keeps
nothing worked out, so that it shares no way of working with the program.
"""

import itertools
import random
import unittest

from namespecimens.hangs import answers
from tests.calls import (
    DAY, FAR, KEY, anchor, candidates, join, meet, name, narrow, reach, same, sort, split, where, withdraw,
)


def key_ok(number):
    return number in range(1, KEY + 1)


def day_ok(number):
    return number in range(0, DAY + 1)


def list_ok(keys, least, most):
    return least <= len(keys) <= most and all(map(key_ok, keys)) and not any(keys.count(key) > 1 for key in keys)


class Model:
    def __init__(self):
        self.names = {}
        self.choices = {}
        self.sortings = {}

    def answer(self, call):
        told = call[1:]
        if call[0] == 0:
            return self.name(told[0], told[1], told[2], told[4:])
        if call[0] == 1:
            return self.narrow(told[0], told[1], told[2], told[4:])
        if call[0] == 2:
            return self.sort(told[0], told[1], told[3:])
        if call[0] in (3, 4):
            return self.two(call[0], *told)
        if call[0] == 5:
            return self.withdraw(*told)
        return self.ask(call[0], told[:-1], told[-1])

    def name(self, key, day, rank, keys):
        below = [self.names.get(each) for each in keys] if rank in (1, 2) else []
        refusals = [
            (-1, not (key_ok(key) and day_ok(day) and rank in (1, 2, 3) and list_ok(keys, 0, 12))),
            (-2, key in self.names),
            (-4, None in below),
            (-5, any(each and each[1] != rank + 1 for each in below)),
            (-6, any(each and each[0] > day for each in below)),
            (-9, len(self.names) == 48),
        ]
        return self.put(self.names, key, (day, rank, list(keys)), refusals)

    def narrow(self, key, day, on, keys):
        refusals = [
            (-1, not (key_ok(key) and key_ok(on) and day_ok(day) and list_ok(keys, 1, 12))),
            (-2, key in self.choices),
            (-4, on not in self.names),
            (-6, on in self.names and day < self.names[on][0]),
            (-9, len(self.choices) == 96),
        ]
        return self.put(self.choices, key, (day, on, list(keys)), refusals)

    def sort(self, key, day, keys):
        pairs = [(keys[place], keys[place + 1]) for place in range(0, len(keys) - 1, 2)]
        specimens = [pair[0] for pair in pairs]
        refusals = [
            (-1, not (key_ok(key) and day_ok(day) and len(keys) % 2 == 0
                      and all(map(key_ok, keys)) and list_ok(specimens, 0, 64))),
            (-2, key in self.sortings),
            (-9, len(self.sortings) == 12),
        ]
        return self.put(self.sortings, key, (day, dict(pairs)), refusals)

    def two(self, which, key, day, a, b):
        there = a in self.sortings and b in self.sortings
        groups = self.made(which, self.sortings[a][1], self.sortings[b][1]) if there else {}
        refusals = [
            (-1, not (key_ok(key) and day_ok(day))),
            (-2, key in self.sortings),
            (-4, not there),
            (-6, there and (day < self.sortings[a][0] or day < self.sortings[b][0])),
            (-9, len(groups) > 64 or len(self.sortings) == 12),
        ]
        return self.put(self.sortings, key, (day, groups), refusals)

    def made(self, which, a, b):
        def together(x, y):
            in_a = x in a and y in a and a[x] == a[y]
            in_b = x in b and y in b and b[x] == b[y]
            return in_a and in_b if which == 3 else in_a or in_b

        specimens = sorted(x for x in set(a) | set(b) if together(x, x))
        groups = {}
        for x in specimens:
            if x in groups:
                continue
            number = max(groups.values(), default=0) + 1
            row = [x]
            while row:
                here = row.pop()
                groups[here] = number
                row += [y for y in specimens if y not in groups and together(here, y)]
        return groups

    def put(self, table, key, what, refusals):
        for number, holds in refusals:
            if holds:
                return [number]
        table[key] = what
        return [0]

    def withdraw(self, table, key):
        if table not in (1, 2, 3):
            return [-1]
        held = (self.names, self.choices, self.sortings)[table - 1]
        if key not in held:
            return [-8]
        if table == 1:
            listed = [each for day, rank, keys in self.names.values() if rank < 3 for each in keys]
            if key in listed or key in [on for day, on, keys in self.choices.values()]:
                return [-7]
        del held[key]
        return [0]

    def candidates(self, key, day):
        now = set(self.names[key][2])
        for when, choice in sorted((told[0], choice) for choice, told in self.choices.items()):
            chosen = set(self.choices[choice][2])
            if self.choices[choice][1] == key and when <= day and chosen < now:
                now = chosen
        return sorted(now)

    def ends(self, key, day):
        """Where each chain ends: a specimen, or None for nothing."""
        now = self.candidates(key, day)
        if not now:
            return [None]
        if self.names[key][1] == 3:
            return now
        return [end for below in now for end in self.ends(below, day)]

    def anchor(self, key, day):
        now = self.candidates(key, day)
        species = self.names[key][1] == 3
        anchors = {(1, below) if species else self.anchor(below, day) for below in now} or {(0, 0)}
        return anchors.pop() if len(anchors) == 1 else (2, key)

    def ask(self, which, told, day):
        if not day_ok(day):
            return [-1]
        kinds = {6: "n", 7: "n", 8: "n", 9: "nn", 10: "ns"}[which]
        for kind, key in zip(kinds, told):
            table = self.names if kind == "n" else self.sortings
            if key not in table or table[key][0] > day:
                return [-4 if kind == "n" else -3]
        if which == 6:
            now = self.candidates(told[0], day)
            return [len(now)] + now
        if which == 8:
            return list(self.anchor(told[0], day))
        ends = self.ends(told[0], day)
        reached = sorted(set(ends) - {None})
        if which == 7:
            return [int(None in ends), len(reached)] + reached
        if which == 9:
            anchors = [self.anchor(key, day) for key in told]
            if anchors[0] == anchors[1] != (0, 0):
                return [2]
            return [int(any(x in self.ends(told[1], day) for x in reached))]
        touched = sorted({self.sortings[told[1]][1].get(x, 0) for x in reached})
        falls = touched[0] if len(touched) == 1 and None not in ends else 0
        return [falls, int(None in ends), len(touched)] + touched


class Lines:
    """Makes mixed lines of calls over few keys and days, some of them out of range."""

    def __init__(self, seed):
        self.random = random.Random(seed)
        self.keys = self.random.choice((4, 8, 20))
        self.days = self.random.choice((1, 4))

    def odd(self, number):
        """The number, or now and then one that is at or out of an end of a range."""
        if self.random.random() < 0.01:
            return self.random.choice((0, -1, 1, KEY, KEY + 1, DAY, DAY + 1, -FAR, FAR))
        return number

    def key(self):
        return self.odd(self.random.randint(1, self.keys))

    def day(self):
        return self.odd(self.random.randint(0, self.days))

    def some(self, most):
        count = min(self.random.randint(0, most), self.keys)
        return [self.odd(key) for key in self.random.sample(range(1, self.keys + 1), count)]

    def groups(self):
        return list(itertools.chain(*[(x, self.odd(self.random.randint(1, 3))) for x in self.some(8)]))

    def names(self):
        """A name whose list may hold names of the rank below, as the keys are shared out."""
        rank = self.random.choice((1, 2, 2, 3, 3, 3))
        third = max(self.keys // 3, 1)
        start = (3 - rank) * third
        key = start + self.random.randint(1, third)
        if rank == 3:
            return name(self.odd(key), self.day(), rank, self.some(4))
        below = [start - third + place for place in range(1, third + 1)]
        chosen = self.random.sample(below, self.random.randint(0, min(third, 4)))
        return name(self.odd(key), self.odd(self.random.randint(self.days // 2, self.days)), self.odd(rank), chosen)

    def call(self):
        made = self.random.choices((
            lambda: self.names(),
            lambda: name(self.key(), self.day(), self.odd(self.random.randint(1, 3)), self.some(4)),
            lambda: narrow(self.key(), self.day(), self.key(), self.some(3)),
            lambda: sort(self.key(), self.day(), self.groups()),
            lambda: meet(self.key(), self.day(), self.key(), self.key()),
            lambda: join(self.key(), self.day(), self.key(), self.key()),
            lambda: withdraw(self.odd(self.random.randint(1, 3)), self.key()),
            lambda: candidates(self.key(), self.day()),
            lambda: reach(self.key(), self.day()),
            lambda: anchor(self.key(), self.day()),
            lambda: same(self.key(), self.key(), self.day()),
            lambda: where(self.key(), self.key(), self.day()),
        ), (8, 1, 6, 2, 2, 2, 3, 3, 4, 4, 6, 6))[0]
        return made()

    def line(self):
        return [self.call() for each in range(self.random.randint(1, 300))]


class AgainstTheModel(unittest.TestCase):
    def test_mixed_lines(self):
        met = {}
        for seed in range(300):
            calls = Lines(seed).line()
            model = Model()
            handed = sum(calls, [])
            given = answers(handed)
            self.assertEqual(handed, sum(calls, []))
            self.assertEqual(answers(handed), given)
            self.assertEqual({type(number) for number in given}, {int})
            found = split(given)
            self.assertEqual(len(found), len(calls))
            for place, call in enumerate(calls):
                wanted = model.answer(call)
                self.assertEqual(found[place], wanted, (seed, place, call))
                met.setdefault(call[0], set()).add(min(wanted[0], 1))
        # The lines are of use only as long as they meet these refusals and ways to be answered.
        entering = {0: {-1, -2, -4, -5, -6}, 1: {-1, -2, -4, -6}, 2: {-1, -2}, 5: {-1, -7, -8}}
        entering[3] = entering[4] = {-1, -2, -4, -6}
        for call, numbers in entering.items():
            self.assertLessEqual(numbers | {0}, met[call], call)
        for call in (6, 7, 8, 9, 10):
            self.assertLessEqual({0, 1, -1, -4} | ({-3} if call == 10 else set()), met[call], call)
