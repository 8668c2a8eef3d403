import builtins
import io
import unittest
from contextlib import redirect_stderr, redirect_stdout
from unittest import mock

from namespecimens.hangs import answers
from tests.calls import (
    FAR, anchor, apart, blocks, candidates, choose, fate, finer, join, meet, members, name, narrow, pairs, reach, run,
    same, sort, synonyms, through, whatif, where, withdraw,
)

LINE = sum([
    name(1, 5, 3, [8, 7]), name(2, 5, 3, [9, 8]), name(3, 5, 2, [2, 1]), narrow(1, 6, 1, [8]),
    sort(1, 5, [9, 4, 7, 4, 8, 5]), sort(2, 5, [8, 1, 7, 1]), meet(3, 5, 1, 2), join(4, 5, 1, 2),
    candidates(3, 6), reach(3, 6), anchor(3, 6), same(1, 3, 6), where(3, 4, 6), where(3, 3, 5),
    whatif(3, 1, 2, 9, 6), members(1, 5, 3, 6), synonyms(1, 4, 6), fate(1, 6), through(1, 6),
    apart(6, [2, 1]), apart(5, []), choose(6, [2, 1]), choose(6, [3]), blocks(1, 5), finer(1, 2, 5), pairs(1, 2, 5),
    withdraw(2, 1), withdraw(3, 4), withdraw(1, 9), candidates(1, 6),
], [])

WANTED = [
    1, 0, 1, 0, 1, 0, 1, 0,
    1, 0, 1, 0, 1, 0, 1, 0,
    3, 2, 1, 2, 4, 0, 2, 8, 9, 2, 2, 3, 1, 1, 4, 1, 0, 1, 1, 6, 0, 0, 3, 0, 1, 2,
    5, 0, 0, 2, 4, 5, 4, 1, 1, 1, 2, 4, 1, 1, 2, 1, 1, 0, 3, 2, 1, 3,
    1, 1, 1, -1, 2, 9, 8, 1, -5, 8, 2, 4, 2, 7, 9, 5, 1, 8, 3, 0, 7, 9, 4, 0, 0, 1, 0,
    1, 0, 1, 0, 1, -8, 3, 2, 7, 8,
]


class Guarded(list):
    """A list that takes no change."""

    def refuse(self, *told, **named):
        raise AssertionError("what is handed in is changed")

    append = clear = extend = insert = pop = remove = reverse = sort = refuse
    __setitem__ = __delitem__ = __iadd__ = __imul__ = refuse


class Interface(unittest.TestCase):
    def test_counts_and_answers(self):
        self.assertEqual(answers(list(LINE)), WANTED)

    def test_one_call(self):
        self.assertEqual(answers([0, 1, 0, 3, 0]), [1, 0])
        self.assertEqual(answers([6, 1, 0]), [1, -4])
        self.assertEqual(answers([5, 4, 1]), [1, -1])

    def test_a_list_of_whole_numbers(self):
        given = answers(list(LINE))
        self.assertIs(type(given), list)
        self.assertEqual({type(number) for number in given}, {int})

    def test_what_is_handed_in_stays(self):
        line = Guarded(LINE)
        self.assertEqual(answers(line), WANTED)
        self.assertEqual(list(line), LINE)

    def test_nothing_is_kept(self):
        self.assertEqual(answers(list(LINE)), WANTED)
        self.assertEqual(answers([6, 1, 6] + [10, 1, 1, 6]), [1, -4, 1, -4])
        given = answers(list(LINE))
        self.assertEqual(given, WANTED)
        given.clear()
        self.assertEqual(answers(list(LINE)), WANTED)

    def test_each_time_another_list(self):
        line = list(LINE)
        self.assertIsNot(answers(line), answers(line))

    def test_prints_reads_and_imports_nothing(self):
        out = io.StringIO()
        none = mock.Mock(side_effect=AssertionError)
        with redirect_stdout(out), redirect_stderr(out):
            with mock.patch.object(builtins, "open", none), mock.patch.object(builtins, "__import__", none):
                given = answers(list(LINE))
        self.assertEqual(given, WANTED)
        self.assertEqual(out.getvalue(), "")

    def test_300_calls(self):
        calls = [name(1, 0, 3, range(1, 13)), sort(1, 0, sum([[x, 1] for x in range(1, 65)], []))]
        while len(calls) < 300:
            calls += [meet(2, 0, 1, 1), withdraw(3, 2)] if len(calls) < 298 else [where(1, 1, 0)]
        found = run(calls)
        self.assertEqual(len(found), 300)
        self.assertEqual(found[:298], [[0]] * 298)
        self.assertEqual(found[298:], [[1, 0, 1, 1]] * 2)

    def test_300_calls_of_all_kinds(self):
        entered = [name(key, 0, 3, range(key, key + 12)) for key in range(1, 13)]
        entered += [name(key, 0, 2, range(1, 13)) for key in range(13, 25)]
        entered += [name(key, 0, 1, range(13, 25)) for key in range(25, 37)]
        entered += [sort(key, 0, sum([[x, x // key + 1] for x in range(64, 0, -1)], [])) for key in range(1, 11)]
        entered += [meet(11, 0, 2, 3), join(12, 0, 2, 3), narrow(1, 1, 36, [13]), withdraw(2, 1), narrow(2, 2, 1, [1])]
        # Groups of 2 and of 3 numbers in a row hang together in sixes.
        joined = [11]
        for sixth in range(11):
            specimens = [x for x in range(1, 65) if x // 6 == sixth]
            joined += [sixth + 1, len(specimens)] + specimens
        asked = [
            (candidates(36, 1), [12] + list(range(13, 25))), (reach(36, 1), [0, 23] + list(range(1, 24))),
            (anchor(36, 1), [2, 36]), (same(25, 36, 1), [1]), (where(36, 10, 1), [0, 0, 3, 1, 2, 3]),
            (whatif(36, 10, 36, 14, 2), [0, 0, 3, 1, 2, 3]), (members(12, 1, 1, 2), [0, 12] + list(range(25, 37))),
            (synonyms(1, 10, 2), [1, 0]), (fate(2, 2), [0]),
            (through(1, 2), [25, 1] + list(range(13, 37))), (apart(2, range(10, 0, -1)), [1]),
            (choose(2, range(10, 0, -1)), [10, 9, 8, 7, 6, 5, 4, 3, 2, 1]), (pairs(2, 3, 2), [20, 11, 42, 1943]),
            (blocks(12, 0), joined), (finer(3, 2, 0), [0, 1, 2]), (finer(11, 2, 0), [1]),
        ]
        line = entered + [call for call, answer in asked] * 16
        line = (line + [name(1, 0, 3, [])] * 300)[:300]
        found = run(line)
        self.assertEqual(found[:len(entered)], [[0]] * len(entered))
        for place in range(len(entered), 300):
            call = line[place]
            wanted = [answer for asking, answer in asked if asking == call] or [[-2]]
            self.assertEqual(found[place], wanted[0], call)
        self.assertEqual({call[0] for call in line}, set(range(21)))
        self.assertEqual(run(line), found)

    def test_long_lists_between_other_calls(self):
        calls = []
        for count in (0, 1, 12, 13, 64, 65, 128, 130, 160):
            keys = range(1, count + 1)
            calls += [name(count + 1, 0, 3, keys), narrow(count + 1, 0, 1, keys), sort(count + 1, 0, keys), reach(1, 0)]
        found = run(calls)
        self.assertEqual([found[place:place + 4] for place in range(0, len(found), 4)], [
            [[0], [-1], [0], [1, 0]],
            [[0], [0], [-1], [1, 0]],
            [[0], [0], [0], [1, 0]],
            [[-1], [-1], [-1], [1, 0]],
            [[-1], [-1], [0], [1, 0]],
            [[-1], [-1], [-1], [1, 0]],
            [[-1], [-1], [0], [1, 0]],
            [[-1], [-1], [-1], [1, 0]],
            [[-1], [-1], [-1], [1, 0]],
        ])

    def test_25000_numbers(self):
        calls = [name(1, 0, 3, [5])] + [sort(1, 0, [FAR] * 160)] * 150 + [reach(1, 0)]
        self.assertLessEqual(len(sum(calls, [])), 25000)
        self.assertEqual(run(calls), [[0]] + [[-1]] * 150 + [[0, 1, 5]])
