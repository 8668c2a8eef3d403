"""Mixed lines of calls against a second, slower telling of the document.

The model goes through every single chain and every row of neighbours, and keeps
nothing worked out, so that it shares no way of working with the program.
"""

import itertools
import random
import unittest

from namespecimens.hangs import answers
from tests.calls import (
    DAY, FAR, KEY, anchor, apart, blocks, candidates, choose, fate, finer, join, meet, members, name, narrow, pairs,
    reach, same, sort, split, synonyms, through, whatif, where, withdraw,
)


def key_ok(number):
    return number in range(1, KEY + 1)


def day_ok(number):
    return number in range(0, DAY + 1)


def list_ok(keys, least, most):
    return least <= len(keys) <= most and all(map(key_ok, keys)) and not any(keys.count(key) > 1 for key in keys)


def counted(numbers):
    found = sorted(numbers)
    return [len(found)] + found


# What each call that asks tells ahead of the day: a name, a sorting, a choice, or another number.
KINDS = {
    6: "n", 7: "n", 8: "n", 9: "nn", 10: "ns", 11: "nsn-", 12: "s--", 13: "ns", 14: "c", 15: "n", 18: "s", 19: "ss",
    20: "ss",
}

ASKED = {
    6: "ask_candidates", 7: "ask_reach", 8: "ask_anchor", 9: "ask_same", 10: "ask_where", 11: "ask_whatif",
    12: "ask_members", 13: "ask_synonyms", 14: "ask_fate", 15: "ask_through", 18: "ask_blocks", 19: "ask_finer",
    20: "ask_pairs",
}


class Model:
    def __init__(self):
        self.names = {}
        self.choices = {}
        self.sortings = {}
        self.supposed = {}

    def answer(self, call):
        told = call[1:]
        if call[0] == 0:
            return self.name(told[0], told[1], told[2], told[4:])
        if call[0] == 1:
            return self.narrow(told[0], told[1], told[2], told[4:])
        if call[0] == 2:
            return self.sort(told[0], told[1], told[3:])
        if call[0] in (3, 4):
            return self.two(call[0], *told)
        if call[0] == 5:
            return self.withdraw(*told)
        if call[0] in (16, 17):
            return self.unlike(call[0], told[0], told[2:])
        return self.ask(call[0], told[:-1], told[-1])

    def name(self, key, day, rank, keys):
        below = [self.names.get(each) for each in keys] if rank in (1, 2) else []
        refusals = [
            (-1, not (key_ok(key) and day_ok(day) and rank in (1, 2, 3) and list_ok(keys, 0, 12))),
            (-2, key in self.names),
            (-4, None in below),
            (-5, any(each and each[1] != rank + 1 for each in below)),
            (-6, any(each and each[0] > day for each in below)),
            (-9, len(self.names) == 48),
        ]
        return self.put(self.names, key, (day, rank, list(keys)), refusals)

    def narrow(self, key, day, on, keys):
        refusals = [
            (-1, not (key_ok(key) and key_ok(on) and day_ok(day) and list_ok(keys, 1, 12))),
            (-2, key in self.choices),
            (-4, on not in self.names),
            (-6, on in self.names and day < self.names[on][0]),
            (-9, len(self.choices) == 96),
        ]
        return self.put(self.choices, key, (day, on, list(keys)), refusals)

    def sort(self, key, day, keys):
        pairs = [(keys[place], keys[place + 1]) for place in range(0, len(keys) - 1, 2)]
        specimens = [pair[0] for pair in pairs]
        refusals = [
            (-1, not (key_ok(key) and day_ok(day) and len(keys) % 2 == 0
                      and all(map(key_ok, keys)) and list_ok(specimens, 0, 64))),
            (-2, key in self.sortings),
            (-9, len(self.sortings) == 12),
        ]
        return self.put(self.sortings, key, (day, dict(pairs)), refusals)

    def two(self, which, key, day, a, b):
        there = a in self.sortings and b in self.sortings
        groups = self.made(which, self.sortings[a][1], self.sortings[b][1]) if there else {}
        refusals = [
            (-1, not (key_ok(key) and day_ok(day))),
            (-2, key in self.sortings),
            (-4, not there),
            (-6, there and (day < self.sortings[a][0] or day < self.sortings[b][0])),
            (-9, len(groups) > 64 or len(self.sortings) == 12),
        ]
        return self.put(self.sortings, key, (day, groups), refusals)

    def made(self, which, a, b):
        def together(x, y):
            in_a = x in a and y in a and a[x] == a[y]
            in_b = x in b and y in b and b[x] == b[y]
            return in_a and in_b if which == 3 else in_a or in_b

        specimens = sorted(x for x in set(a) | set(b) if together(x, x))
        groups = {}
        for x in specimens:
            if x in groups:
                continue
            number = max(groups.values(), default=0) + 1
            row = [x]
            while row:
                here = row.pop()
                groups[here] = number
                row += [y for y in specimens if y not in groups and together(here, y)]
        return groups

    def put(self, table, key, what, refusals):
        for number, holds in refusals:
            if holds:
                return [number]
        table[key] = what
        return [0]

    def withdraw(self, table, key):
        if table not in (1, 2, 3):
            return [-1]
        held = (self.names, self.choices, self.sortings)[table - 1]
        if key not in held:
            return [-8]
        if table == 1:
            listed = [each for day, rank, keys in self.names.values() if rank < 3 for each in keys]
            if key in listed or key in [on for day, on, keys in self.choices.values()]:
                return [-7]
        del held[key]
        return [0]

    def fates(self, key, day):
        """The fate of each choice on the name up to the day, and the candidates behind them."""
        now = set(self.names[key][2])
        fates = {}
        for when, choice in sorted((told[0], choice) for choice, told in self.choices.items()):
            chosen = set(self.choices[choice][2])
            if self.choices[choice][1] == key and when <= day:
                fates[choice] = 1 if chosen - now else 2 if chosen == now else 0
                now = now if fates[choice] else chosen
        return fates, sorted(now)

    def candidates(self, key, day):
        # Whatif supposes one candidate for a while.
        return self.supposed.get(key) or self.fates(key, day)[1]

    def chains(self, key, day):
        """Each chain: the names that it goes through, and the specimen it ends in, or None for nothing."""
        now = self.candidates(key, day)
        if not now:
            return [[key, None]]
        if self.names[key][1] == 3:
            return [[key, specimen] for specimen in now]
        return [[key] + chain for below in now for chain in self.chains(below, day)]

    def ends(self, key, day):
        return [chain[-1] for chain in self.chains(key, day)]

    def anchor(self, key, day):
        now = self.candidates(key, day)
        species = self.names[key][1] == 3
        anchors = {(1, below) if species else self.anchor(below, day) for below in now} or {(0, 0)}
        return anchors.pop() if len(anchors) == 1 else (2, key)

    def same(self, key, other, day):
        if self.anchor(key, day) == self.anchor(other, day) != (0, 0):
            return 2
        return int(any(x in self.ends(other, day) for x in self.ends(key, day) if x is not None))

    def where(self, key, sorting, day):
        ends = self.ends(key, day)
        touched = sorted({self.sortings[sorting][1].get(x, 0) for x in ends if x is not None})
        falls = touched[0] if len(touched) == 1 and None not in ends else 0
        return [falls, int(None in ends), len(touched)] + touched

    def ask(self, which, told, day):
        if not day_ok(day):
            return [-1]
        if which == 12 and not (key_ok(told[1]) and told[2] in (1, 2, 3)):
            return [-1]
        for kind, key in zip(KINDS[which], told):
            table = {"n": self.names, "s": self.sortings, "c": self.choices}.get(kind)
            if table is not None and (key not in table or table[key][0] > day):
                return [{"n": -4, "s": -3, "c": -8}[kind]]
        return getattr(self, ASKED[which])(*told, day)

    def ask_candidates(self, key, day):
        return counted(self.candidates(key, day))

    def ask_reach(self, key, day):
        ends = self.ends(key, day)
        return [int(None in ends)] + counted(set(ends) - {None})

    def ask_anchor(self, key, day):
        return list(self.anchor(key, day))

    def ask_same(self, key, other, day):
        return [self.same(key, other, day)]

    def ask_where(self, key, sorting, day):
        return self.where(key, sorting, day)

    def ask_whatif(self, key, sorting, other, x, day):
        if x not in self.candidates(other, day):
            return [-5]
        self.supposed = {other: [x]}
        answer = self.where(key, sorting, day)
        self.supposed = {}
        return answer

    def of_rank(self, rank, day):
        return [key for key in self.names if self.names[key][0] <= day and self.names[key][1] == rank]

    def ask_members(self, sorting, group, rank, day):
        wheres = {key: self.where(key, sorting, day) for key in self.of_rank(rank, day)}
        falling = {key for key, told in wheres.items() if told[0] == group}
        return counted(falling) + counted({key for key, told in wheres.items() if group in told[3:]} - falling)

    def ask_synonyms(self, key, sorting, day):
        group = self.where(key, sorting, day)[0]
        if group == 0:
            return [-5]
        others = [other for other in self.of_rank(self.names[key][1], day) if other != key]
        found = sorted(other for other in others if self.where(other, sorting, day)[0] == group)
        return [group, len(found)] + sum([[other, self.same(key, other, day)] for other in found], [])

    def ask_fate(self, choice, day):
        return [self.fates(self.choices[choice][1], day)[0][choice]]

    def ask_through(self, key, day):
        there = [other for other in self.names if self.names[other][0] <= day]
        return counted(other for other in there if any(key in chain[:-1] for chain in self.chains(other, day)))

    def unlike(self, which, day, keys):
        if not (day_ok(day) and list_ok(keys, 1, 10)):
            return [-1]
        if any(key not in self.names or self.names[key][0] > day for key in keys):
            return [-4]
        if any(self.names[key][1] != 3 for key in keys):
            return [-5]
        wanting = [
            list(some) for size in range(1, len(keys) + 1) for some in itertools.combinations(keys, size)
            if len({x for key in some for x in self.candidates(key, day)}) < size]
        if which == 16:
            return [0] + wanting[0] if wanting else [1]
        rows = itertools.product(*[self.candidates(key, day) for key in keys])
        return list(next((row for row in rows if len(set(row)) == len(row)), [-7]))

    def ask_blocks(self, sorting, day):
        groups = self.sortings[sorting][1]
        found = sorted([sorted(x for x in groups if groups[x] == group), group] for group in set(groups.values()))
        return [len(found)] + sum([[group] + counted(specimens) for specimens, group in found], [])

    def together(self, sorting, x, y):
        groups = self.sortings[sorting][1]
        return x in groups and y in groups and groups[x] == groups[y]

    def ask_finer(self, a, b, day):
        every = itertools.product(sorted(self.sortings[a][1]), repeat=2)
        parted = [[x, y] for x, y in every if x <= y and self.together(a, x, y) and not self.together(b, x, y)]
        return [0] + parted[0] if parted else [1]

    def ask_pairs(self, a, b, day):
        common = set(self.sortings[a][1]) & set(self.sortings[b][1])
        found = [(self.together(a, *two), self.together(b, *two)) for two in itertools.combinations(common, 2)]
        return [found.count(each) for each in ((True, True), (True, False), (False, True), (False, False))]


class Lines:
    """Makes mixed lines of calls over few keys and days, some of them out of range."""

    def __init__(self, seed):
        self.random = random.Random(seed)
        self.keys = self.random.choice((4, 8, 20))
        self.days = self.random.choice((1, 4))

    def odd(self, number):
        """The number, or now and then one that is at or out of an end of a range."""
        if self.random.random() < 0.01:
            return self.random.choice((0, -1, 1, KEY, KEY + 1, DAY, DAY + 1, -FAR, FAR))
        return number

    def key(self):
        return self.odd(self.random.randint(1, self.keys))

    def day(self):
        return self.odd(self.random.randint(0, self.days))

    def some(self, most):
        count = min(self.random.randint(0, most), self.keys)
        return [self.odd(key) for key in self.random.sample(range(1, self.keys + 1), count)]

    def groups(self):
        return list(itertools.chain(*[(x, self.group()) for x in self.some(8)]))

    def group(self):
        return self.odd(self.random.randint(1, 3))

    def species(self):
        """Some keys, most often of those that species's names mostly have."""
        if self.random.random() < 0.2:
            return self.some(6)
        third = max(self.keys // 3, 1)
        chosen = self.random.sample(range(1, third + 1), self.random.randint(1, min(third, 6)))
        return [self.odd(key) for key in chosen]

    def names(self):
        """A name whose list may hold names of the rank below, as the keys are shared out."""
        rank = self.random.choice((1, 2, 2, 3, 3, 3))
        third = max(self.keys // 3, 1)
        start = (3 - rank) * third
        key = start + self.random.randint(1, third)
        if rank == 3:
            return name(self.odd(key), self.day(), rank, self.some(4))
        below = [start - third + place for place in range(1, third + 1)]
        chosen = self.random.sample(below, self.random.randint(0, min(third, 4)))
        return name(self.odd(key), self.odd(self.random.randint(self.days // 2, self.days)), self.odd(rank), chosen)

    def call(self):
        made = self.random.choices((
            lambda: self.names(),
            lambda: name(self.key(), self.day(), self.odd(self.random.randint(1, 3)), self.some(4)),
            lambda: narrow(self.key(), self.day(), self.key(), self.some(3)),
            lambda: sort(self.key(), self.day(), self.groups()),
            lambda: meet(self.key(), self.day(), self.key(), self.key()),
            lambda: join(self.key(), self.day(), self.key(), self.key()),
            lambda: withdraw(self.odd(self.random.randint(1, 3)), self.key()),
            lambda: candidates(self.key(), self.day()),
            lambda: reach(self.key(), self.day()),
            lambda: anchor(self.key(), self.day()),
            lambda: same(self.key(), self.key(), self.day()),
            lambda: where(self.key(), self.key(), self.day()),
            lambda: whatif(self.key(), self.key(), self.key(), self.key(), self.day()),
            lambda: members(self.key(), self.group(), self.odd(self.random.randint(1, 3)), self.day()),
            lambda: synonyms(self.key(), self.key(), self.day()),
            lambda: fate(self.key(), self.day()),
            lambda: through(self.key(), self.day()),
            lambda: apart(self.day(), self.species()),
            lambda: choose(self.day(), self.species()),
            lambda: blocks(self.key(), self.day()),
            lambda: finer(self.key(), self.key(), self.day()),
            lambda: pairs(self.key(), self.key(), self.day()),
        ), (16, 1, 12, 5, 3, 3, 5) + (3, 4, 4, 6, 6) + (12, 6, 6, 6, 6, 5, 5, 4, 6, 6))[0]
        return made()

    def line(self):
        return [self.call() for each in range(self.random.randint(1, 300))]


class FullLines(Lines):
    """Makes lines that first enter names, choices and sortings, so that most of what is asked then is there."""

    def some_of(self, keys, least, most):
        return self.random.sample(keys, self.random.randint(least, min(most, len(keys))))

    def entered(self):
        calls = [name(key, self.day(), 3, self.some_of(range(1, 10), 0, 5)) for key in range(1, 9)]
        calls += [name(key, self.days, 2, self.some_of(range(1, 9), 0, 3)) for key in range(9, 13)]
        calls += [name(key, self.days, 1, self.some_of(range(9, 13), 0, 3)) for key in range(13, 16)]
        for key in self.random.sample(range(1, 31), 30):
            calls.append(self.choice(key, calls[self.random.randint(1, 15) - 1]))
        for key in range(1, 4):
            specimens = self.some_of(range(1, 10), 4, 9)
            calls.append(sort(key, self.day(), sum([[x, self.random.randint(1, 2)] for x in specimens], [])))
        return calls + [meet(4, self.days, 1, 2), join(5, self.days, 2, 3)]

    def choice(self, key, named):
        """A choice on this name, most often of some of its first candidates."""
        keys = self.some_of(named[5:], 1, 4) if named[5:] else [1]
        if self.random.random() < 0.2:
            keys = self.some_of(range(1, 13), 1, 3)
        return narrow(key, self.random.randint(0, self.days + 2), named[1], keys)

    def call(self):
        drawn = self.random.randint
        day = self.days + drawn(-1, 2)
        key, other, sorting, second = drawn(1, 15), drawn(1, 15), drawn(1, 5), drawn(1, 5)
        species = self.some_of(range(1, 9), 1, 6)
        return self.random.choice((
            candidates(key, day), reach(key, day), anchor(key, day), same(key, other, day), where(key, sorting, day),
            whatif(key, sorting, other, drawn(1, 13), day), whatif(key, sorting, drawn(1, 8), drawn(1, 9), day),
            members(sorting, drawn(1, 3), drawn(1, 3), day), synonyms(key, sorting, day), fate(drawn(1, 30), day),
            through(key, day), apart(day, species), choose(day, species), blocks(sorting, day),
            finer(sorting, second, day), pairs(sorting, second, day), withdraw(drawn(2, 3), drawn(1, 30)),
        ))

    def line(self):
        return self.entered() + [self.call() for each in range(200)]


# The mixed lines are of use only as long as they meet these refusals and ways to be answered.
MET = {
    0: {-1, -2, -4, -5, -6, 0}, 1: {-1, -2, -4, -6, 0}, 2: {-1, -2, 0}, 3: {-1, -2, -4, -6, 0},
    4: {-1, -2, -4, -6, 0}, 5: {-1, -7, -8, 0}, 6: {-1, -4, 0, 1}, 7: {-1, -4, 0, 1}, 8: {-1, -4, 0, 1, 2},
    9: {-1, -4, 0, 1, 2}, 10: {-1, -3, -4, 0, 1}, 11: {-1, -3, -4, -5, 0, 1}, 12: {-1, -3, 0, 1},
    13: {-1, -3, -4, -5, 1, 2, 3}, 14: {-1, -8, 0, 1, 2}, 15: {-1, -4, 1, 2, 3}, 16: {-1, -4, -5, 0, 1},
    17: {-1, -4, -5, -7, 1, 2, 3}, 18: {-1, -3, 0, 1, 2, 3}, 19: {-1, -3, 0, 1}, 20: {-1, -3, 0, 1, 2},
}


class AgainstTheModel(unittest.TestCase):
    def check(self, calls):
        """Checks the answers of one line, and gives them back."""
        model = Model()
        handed = sum(calls, [])
        given = answers(handed)
        self.assertEqual(handed, sum(calls, []))
        self.assertEqual(answers(handed), given)
        self.assertEqual({type(number) for number in given}, {int})
        found = split(given)
        self.assertEqual(len(found), len(calls))
        for place, call in enumerate(calls):
            self.assertEqual(found[place], model.answer(call), (place, call))
            self.assertTrue(len(found[place]) == 1 or min(found[place]) >= 0, (place, call))
        return found

    def test_mixed_lines(self):
        met = {}
        for seed in range(400):
            with self.subTest(seed=seed):
                calls = Lines(seed).line()
                for call, answer in zip(calls, self.check(calls)):
                    met.setdefault(call[0], set()).add(answer[0])
        for call, numbers in MET.items():
            self.assertLessEqual(numbers, met[call], call)

    def test_lines_with_full_tables(self):
        met = {}
        for seed in range(60):
            with self.subTest(seed=seed):
                calls = FullLines(seed).line()
                for call, answer in zip(calls, self.check(calls)):
                    met.setdefault(call[0], []).append(tuple(answer))
        for call in range(6, 21):
            answered = [answer for answer in met[call] if answer[0] >= 0]
            self.assertGreater(len(answered), 50, call)
            self.assertGreater(len(set(answered)), 2 if call in (9, 14) else 10, call)

    def test_calls_that_ask_change_nothing(self):
        for seed in range(100):
            calls = Lines(seed).line()
            entering = [call for call in calls if call[0] <= 5]
            found = split(answers(sum(calls, [])))
            entered = [answer for call, answer in zip(calls, found) if call[0] <= 5]
            if entering:
                self.assertEqual(split(answers(sum(entering, []))), entered)
            # Asked the other way round, each is answered the same.
            asking = [call for call in calls if call[0] > 5][:299 - len(entering)]
            if entering and asking:
                once = split(answers(sum(entering + asking, [])))[len(entering):]
                back = split(answers(sum(entering + asking[::-1], [])))[len(entering):]
                self.assertEqual(once, back[::-1])
