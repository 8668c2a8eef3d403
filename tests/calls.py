"""Calls written out as lists of numbers, and what the tests look at again and again."""

import unittest

from namespecimens.hangs import answers

KEY = 10 ** 9
DAY = 10 ** 6
FAR = 10 ** 12
NO_KEYS = (0, -1, KEY + 1, -FAR, FAR)
NO_DAYS = (-1, DAY + 1, -FAR, FAR)
NO_RANKS = (0, 4, -1, -FAR, FAR)


def name(key, day, rank, keys):
    return [0, key, day, rank, len(keys)] + list(keys)


def narrow(key, day, on, keys):
    return [1, key, day, on, len(keys)] + list(keys)


def sort(key, day, keys):
    return [2, key, day, len(keys)] + list(keys)


def meet(key, day, a, b):
    return [3, key, day, a, b]


def join(key, day, a, b):
    return [4, key, day, a, b]


def withdraw(table, key):
    return [5, table, key]


def candidates(key, day):
    return [6, key, day]


def reach(key, day):
    return [7, key, day]


def anchor(key, day):
    return [8, key, day]


def same(key, other, day):
    return [9, key, other, day]


def where(key, sorting, day):
    return [10, key, sorting, day]


def whatif(key, sorting, other, x, day):
    return [11, key, sorting, other, x, day]


def members(sorting, group, rank, day):
    return [12, sorting, group, rank, day]


def synonyms(key, sorting, day):
    return [13, key, sorting, day]


def fate(choice, day):
    return [14, choice, day]


def through(key, day):
    return [15, key, day]


def apart(day, keys):
    return [16, day, len(keys)] + list(keys)


def choose(day, keys):
    return [17, day, len(keys)] + list(keys)


def blocks(sorting, day):
    return [18, sorting, day]


def finer(a, b, day):
    return [19, a, b, day]


def pairs(a, b, day):
    return [20, a, b, day]


def split(given):
    """The answers of each call, from the one list that is given back."""
    found = []
    place = 0
    while place < len(given):
        behind = place + 1 + given[place]
        found.append(given[place + 1:behind])
        place = behind
    if place != len(given):
        raise AssertionError("the last answer is cut off")
    return found


def run(calls):
    """The answers of each call of one line."""
    if not 1 <= len(calls) <= 300:
        raise AssertionError("a line has 1 to 300 calls")
    found = split(answers(sum(calls, [])))
    if len(found) != len(calls):
        raise AssertionError("each call has one answer")
    return found


def last(calls):
    return run(calls)[-1]


def many_names(count, first=1):
    """Names of rank 3 and day 5, each with the specimen of its own key."""
    return [name(key, 5, 3, [key]) for key in range(first, first + count)]


def many_choices(count, on):
    return [narrow(key, 5, on, [key]) for key in range(1, count + 1)]


def many_sortings(count):
    """Sortings of day 5, each with the specimen 1 in the group of its own key."""
    return [sort(key, 5, [1, key]) for key in range(1, count + 1)]


def probes(setup, refused):
    """Calls that show what the tables hold: first what is told of the refused call's key."""
    tables = {0: [], 1: [], 2: []}
    key = refused[2] if refused[0] == 5 else refused[1]
    for table in tables:
        tables[table].append(key)
    for call in setup:
        table = min(call[0], 2)
        if call[0] <= 4 and call[1] not in tables[table]:
            tables[table].append(call[1])
    made = []
    for each in tables[0]:
        made += [candidates(each, DAY), reach(each, DAY), candidates(each, 5)]
    for each in tables[2]:
        made += [where(told, each, day) for told in tables[0][:3] for day in (5, DAY)] + [blocks(each, DAY)]
    made += [fate(each, DAY) for each in tables[1][:12]]
    # A table that is full must still be full, and one with a single place left must have it.
    made += [name(777, 5, 3, []), sort(777, 5, [])]
    made += [withdraw(2, each) for each in tables[1]]
    made += [candidates(each, DAY) for each in tables[0][:5]]
    made += [withdraw(3, each) for each in tables[2]]
    made += [withdraw(1, each) for each in reversed(tables[0])]
    return made[:299 - len(setup)]


def groups_of(setup, sorting, specimens):
    """The group of each of the specimens in the sorting, at the latest day."""
    calls = []
    for specimen in specimens:
        calls += [name(999, DAY, 3, [specimen]), where(999, sorting, DAY), withdraw(1, 999)]
    found = run(setup + calls)[len(setup):]
    groups = {}
    for place, specimen in enumerate(specimens):
        falls, nothing, count, group = found[3 * place + 1]
        if (falls, nothing, count) != (group, 0, 1):
            raise AssertionError("a name of one specimen touches one group")
        groups[specimen] = group
    return groups


class CallCase(unittest.TestCase):
    def entered(self, setup):
        """Checks that each call of the setup is taken, so that a refusal has the told cause alone."""
        if setup:
            self.assertEqual(run(setup), [[0]] * len(setup))

    def taken(self, setup, call):
        self.entered(setup + [call])

    def refused(self, setup, call, number):
        """Checks the refusal, and that all later answers are as if the call had not been."""
        self.entered(setup)
        self.assertEqual(last(setup + [call]), [number], call)
        later = probes(setup, call)
        with_it = run(setup + [call] + later)[len(setup) + 1:]
        without = run(setup + later)[len(setup):]
        self.assertEqual(with_it, without, call)

    def all_refused(self, setup, calls, number):
        for call in calls:
            with self.subTest(call=call):
                self.refused(setup, call, number)

    def answers_of(self, setup, told):
        """Checks calls that ask against the answers told beside them, in one line."""
        self.entered(setup)
        found = run(setup + [call for call, numbers in told])[len(setup):]
        for (call, numbers), answer in zip(told, found):
            with self.subTest(call=call):
                self.assertEqual(answer, numbers)
