import itertools
import random

from tests.calls import (
    CallCase, DAY, KEY, NO_DAYS, NO_KEYS,
    blocks, finer, join, last, meet, name, narrow, pairs, sort, withdraw,
)


def sorting(key, groups):
    """A sorting of day 5, of a dict from the specimens to their groups."""
    return sort(key, 5, [number for pair in groups.items() for number in pair])


def drawn_groups(drawn, specimens, most, groups):
    chosen = drawn.sample(specimens, drawn.randint(0, most))
    return {x: drawn.choice(groups) for x in chosen}


def together(groups, x, y):
    return x in groups and y in groups and groups[x] == groups[y]


# 4 has the groups of 2 but for one specimen more; 5 has none; 6 has no specimen of the others; 9 is of a later day.
SOME = [
    sorting(1, {80: 20, 70: 20, 90: 10, 60: 30}), sorting(2, {90: 20, 70: 20, 80: 20, 60: 10}),
    sorting(4, {60: 1, 70: 2, 80: 2, 90: 2, 50: 3}), sorting(5, {}), sorting(6, {1: 1, 3: 1, 2: 2}),
    sort(9, 9, [70, 5]), name(3, 5, 3, [70, 80]), narrow(3, 5, 3, [70]),
]

SIXTY_FOUR = list(range(1001, 1065))


class Blocks(CallCase):
    def test_by_the_least_specimen(self):
        self.answers_of(SOME, [
            (blocks(1, 5), [3, 30, 1, 60, 20, 2, 70, 80, 10, 1, 90]),
            (blocks(2, 5), [2, 10, 1, 60, 20, 3, 70, 80, 90]),
            (blocks(4, 5), [3, 3, 1, 50, 1, 1, 60, 2, 3, 70, 80, 90]),
            (blocks(6, 5), [2, 1, 2, 1, 3, 2, 1, 2])])

    def test_the_empty_sorting(self):
        self.answers_of(SOME, [(blocks(5, 5), [0])])

    def test_sixty_four_specimens(self):
        setup = [
            sorting(1, {x: 7 for x in reversed(SIXTY_FOUR)}), sorting(2, {x: KEY - x for x in reversed(SIXTY_FOUR)}),
            sorting(3, {x: x % 2 + 1 for x in reversed(SIXTY_FOUR)})]
        self.answers_of(setup, [
            (blocks(1, 5), [1, 7, 64] + SIXTY_FOUR),
            (blocks(2, 5), [64] + sum([[KEY - x, 1, x] for x in SIXTY_FOUR], [])),
            (blocks(3, 5), [2, 2, 32] + SIXTY_FOUR[::2] + [1, 32] + SIXTY_FOUR[1::2])])

    def test_groups_and_specimens_at_the_ends_of_their_ranges(self):
        setup = [sort(KEY, 0, [KEY, 1, 1, KEY, 10, KEY, 9, 1])]
        self.answers_of(setup, [(blocks(KEY, day), [2, KEY, 2, 1, 10, 1, 2, 9, KEY]) for day in (0, DAY)])

    def test_of_meet_and_join(self):
        setup = SOME + [meet(10, 5, 1, 2), join(11, 5, 1, 4)]
        self.answers_of(setup, [
            (blocks(10, 5), [3, 1, 1, 60, 2, 2, 70, 80, 3, 1, 90]),
            (blocks(11, 5), [3, 1, 1, 50, 2, 1, 60, 3, 3, 70, 80, 90])])

    def test_the_day_of_the_sorting(self):
        self.answers_of(SOME, [(blocks(9, 8), [-3]), (blocks(9, 9), [1, 5, 1, 70]), (blocks(9, DAY), [1, 5, 1, 70])])


class Finer(CallCase):
    def test_finer(self):
        self.answers_of(SOME, [
            (finer(1, 2, 5), [1]), (finer(1, 4, 5), [1]), (finer(2, 4, 5), [1]), (finer(9, 1, 9), [1])])

    def test_a_sorting_with_itself(self):
        self.answers_of(SOME, [(finer(key, key, 5), [1]) for key in (1, 2, 4, 5, 6)])

    def test_the_empty_sorting(self):
        self.answers_of(SOME + [sorting(7, {})], [
            (finer(5, 1, 5), [1]), (finer(5, 7, 5), [1]), (finer(1, 5, 5), [0, 60, 60]), (finer(6, 5, 5), [0, 1, 1])])

    def test_no_specimen_in_common(self):
        self.answers_of(SOME, [(finer(1, 6, 5), [0, 60, 60]), (finer(6, 1, 5), [0, 1, 1])])

    def test_two_that_are_parted(self):
        self.answers_of(SOME, [(finer(2, 1, 5), [0, 70, 90])])

    def test_the_least_x_then_the_least_y(self):
        setup = [
            sorting(1, {9: 5, 4: 6, 8: 6, 2: 5, 7: 5, 6: 6, 1: 3}),
            sorting(2, {1: 1, 2: 1, 9: 2, 7: 2, 4: 7, 6: 8, 8: 8}),
            sorting(3, {1: 1, 2: 1, 9: 2, 7: 1, 4: 7, 6: 8, 8: 8}),
            sorting(4, {1: 1, 2: 1, 9: 1, 7: 1, 4: 7, 6: 7, 8: 8})]
        self.answers_of(setup, [
            (finer(1, 2, 5), [0, 2, 7]), (finer(1, 3, 5), [0, 2, 9]), (finer(1, 4, 5), [0, 4, 8])])

    def test_a_specimen_of_a_that_isnt_in_b(self):
        setup = [
            sorting(1, {2: 1, 3: 1, 5: 2, 6: 2}), sorting(2, {3: 1, 5: 2, 6: 2}), sorting(3, {2: 1, 3: 1, 5: 2}),
            sorting(4, {2: 1, 3: 2, 6: 2}), sorting(5, {2: 1, 3: 1, 6: 2})]
        self.answers_of(setup, [
            (finer(1, 2, 5), [0, 2, 2]), (finer(1, 3, 5), [0, 5, 6]), (finer(1, 4, 5), [0, 2, 3]),
            (finer(1, 5, 5), [0, 5, 5])])

    def test_y_that_isnt_in_b(self):
        # 2 is in b and 3 isn't: the pair 2, 3 comes ahead of 3, 3.
        setup = [sorting(1, {3: 1, 2: 1}), sorting(2, {2: 1}), sorting(3, {3: 4, 2: 5}), sorting(6, {2: 3})]
        self.answers_of(setup, [(finer(1, 2, 5), [0, 2, 3]), (finer(3, 6, 5), [0, 3, 3]), (finer(2, 1, 5), [1])])

    def test_sixty_four_specimens(self):
        setup = [
            sorting(1, {x: 7 for x in reversed(SIXTY_FOUR)}), sorting(2, {x: KEY - x for x in SIXTY_FOUR}),
            sorting(3, {x: 2 if x == SIXTY_FOUR[-1] else KEY for x in SIXTY_FOUR})]
        self.answers_of(setup, [
            (finer(1, 2, 5), [0, 1001, 1002]), (finer(2, 1, 5), [1]), (finer(1, 3, 5), [0, 1001, 1064]),
            (finer(3, 1, 5), [1]), (finer(2, 3, 5), [1]), (finer(3, 2, 5), [0, 1001, 1002])])

    def test_meet_is_finer_and_join_coarser(self):
        setup = SOME + [meet(10, 5, 1, 2), join(11, 5, 1, 4)]
        told = [finer(10, 1, 5), finer(10, 2, 5), finer(1, 11, 5), finer(4, 11, 5), finer(10, 11, 5)]
        self.answers_of(setup, [(call, [1]) for call in told])


class Pairs(CallCase):
    def test_four_counts(self):
        self.answers_of(SOME, [
            (pairs(1, 2, 5), [1, 0, 2, 3]), (pairs(2, 1, 5), [1, 2, 0, 3]), (pairs(2, 4, 5), [3, 0, 0, 3])])

    def test_a_sorting_with_itself(self):
        self.answers_of(SOME, [
            (pairs(1, 1, 5), [1, 0, 0, 5]), (pairs(4, 4, 5), [3, 0, 0, 7]), (pairs(6, 6, 5), [1, 0, 0, 2])])

    def test_nothing_or_one_in_common(self):
        told = [pairs(1, 6, 5), pairs(6, 1, 5), pairs(5, 1, 5), pairs(1, 5, 5), pairs(5, 5, 5), pairs(9, 1, 9)]
        self.answers_of(SOME, [(call, [0, 0, 0, 0]) for call in told])

    def test_groups_of_one_number_are_not_one_group(self):
        # The number of a group says nothing of the other sorting's groups.
        setup = [sorting(1, {1: 5, 2: 6}), sorting(2, {1: 6, 2: 5}), sorting(3, {1: 6, 2: 6})]
        self.answers_of(setup, [(pairs(1, 2, 5), [0, 0, 0, 1]), (pairs(1, 3, 5), [0, 0, 1, 0])])

    def test_each_of_the_four(self):
        setup = [
            sorting(1, {4: 1, 3: 1, 2: 1, 1: 2, 9: 1}), sorting(2, {1: 9, 2: 9, 3: 8, 4: 8, 7: 8})]
        self.answers_of(setup, [(pairs(1, 2, 5), [1, 2, 1, 2]), (pairs(2, 1, 5), [1, 1, 2, 2])])

    def test_sixty_four_specimens(self):
        setup = [
            sorting(1, {x: 7 for x in reversed(SIXTY_FOUR)}), sorting(2, {x: KEY - x for x in SIXTY_FOUR}),
            sorting(3, {x: x % 2 + 1 for x in SIXTY_FOUR}), sorting(4, {x: x % 4 + KEY - 4 for x in SIXTY_FOUR})]
        self.answers_of(setup, [
            (pairs(1, 1, 5), [2016, 0, 0, 0]), (pairs(1, 2, 5), [0, 2016, 0, 0]), (pairs(2, 1, 5), [0, 0, 2016, 0]),
            (pairs(2, 2, 5), [0, 0, 0, 2016]), (pairs(3, 4, 5), [480, 512, 0, 1024]),
            (pairs(4, 3, 5), [480, 0, 512, 1024])])


class AgainstEveryPair(CallCase):
    def check(self, a, b):
        given = sorted(set(a) | set(b))
        parted = [
            [x, y] for x, y in itertools.combinations_with_replacement(given, 2)
            if together(a, x, y) and not together(b, x, y)]
        counts = {(True, True): 0, (True, False): 0, (False, True): 0, (False, False): 0}
        for x, y in itertools.combinations(sorted(set(a) & set(b)), 2):
            counts[together(a, x, y), together(b, x, y)] += 1
        common = len(set(a) & set(b))
        self.assertEqual(sum(last([sorting(1, a), sorting(2, b), pairs(1, 2, 5)])), common * (common - 1) // 2)
        self.answers_of([sorting(1, a), sorting(2, b)], [
            (finer(1, 2, 5), [0] + parted[0] if parted else [1]), (pairs(1, 2, 5), list(counts.values()))])
        return not parted

    def test_mixed_sortings(self):
        drawn = random.Random(7)
        fine = 0
        for each in range(200):
            most = drawn.choice((4, 8, 64))
            specimens = range(1, most + drawn.choice((0, 5)) + 1)
            a = drawn_groups(drawn, specimens, most, (3, KEY, 1))
            self.check(a, drawn_groups(drawn, specimens, most, (KEY, 3, 2)))
            # One made of the other by running groups together and one specimen put elsewhere.
            b = {x: max(group, 3) for x, group in a.items()}
            fine += self.check(a, b)
            if b:
                b[drawn.choice(list(b))] = 2
                self.check(a, b)
        self.assertEqual(fine, 200)


class SortingsAreRefused(CallCase):
    def test_day_that_is_none(self):
        self.all_refused(SOME, [blocks(key, day) for key in (1, 99, 0) for day in NO_DAYS], -1)
        for ask in (finer, pairs):
            self.all_refused(SOME, [ask(a, b, day) for a in (1, 99) for b in (2, 99) for day in NO_DAYS], -1)

    def test_sorting_that_isnt_there(self):
        none = NO_KEYS + (3, 9, 99, KEY)
        self.all_refused(SOME, [blocks(key, 5) for key in none] + [blocks(1, 4), blocks(9, 8)], -3)
        for ask in (finer, pairs):
            self.all_refused(SOME, [ask(key, 1, 5) for key in none] + [ask(1, key, 5) for key in none], -3)
            self.all_refused(SOME, [ask(99, 98, 5), ask(1, 2, 4), ask(9, 9, 8), ask(1, 9, 8), ask(9, 1, 8)], -3)

    def test_sorting_withdrawn(self):
        setup = SOME + [withdraw(3, 1)]
        self.all_refused(setup, [blocks(1, 5), finer(1, 2, 5), finer(2, 1, 5), pairs(1, 2, 5), pairs(2, 1, 5)], -3)
