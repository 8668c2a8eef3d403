from tests.calls import (
    CallCase, DAY, FAR, KEY, NO_DAYS, NO_KEYS,
    groups_of, join, many_sortings, meet, name, sort, where, withdraw,
)

A = sort(1, 5, [9, 50, 3, 50, 7, 60, 4, 60, 5, 70])
B = sort(2, 8, [9, 80, 7, 80, 4, 80, 3, 80, 5, 90, 6, 90])


def pairs_of(count, first, shift):
    """Specimens from first on, two and two in a group; shifted by one, the first is alone."""
    keys = []
    for place in range(count):
        keys += [first + place, (place + shift) // 2 + 1]
    return keys


class Meet(CallCase):
    def test_groups_within_both_and_their_numbers(self):
        # 3 and 9 together in both, 4 and 7 too; 5 alone; 6 isn't in the first.
        setup = [A, B, meet(3, 8, 1, 2)]
        self.entered(setup)
        self.assertEqual(groups_of(setup, 3, [3, 4, 5, 6, 7, 9]), {3: 1, 9: 1, 4: 2, 7: 2, 5: 3, 6: 0})

    def test_the_other_way_round(self):
        setup = [A, B, meet(3, 8, 2, 1)]
        self.assertEqual(groups_of(setup, 3, [3, 4, 5, 6, 7, 9]), {3: 1, 9: 1, 4: 2, 7: 2, 5: 3, 6: 0})

    def test_numbers_follow_the_least_specimen_not_the_group(self):
        setup = [sort(1, 0, [1, 9, 2, 8, 3, 9, 4, 7]), meet(2, 0, 1, 1)]
        self.assertEqual(groups_of(setup, 2, [1, 2, 3, 4]), {1: 1, 2: 2, 3: 1, 4: 3})

    def test_split_by_either(self):
        setup = [sort(1, 0, [1, 5, 2, 5, 3, 6]), sort(2, 0, [1, 7, 2, 8, 3, 8]), meet(3, 0, 1, 2)]
        self.assertEqual(groups_of(setup, 3, [1, 2, 3]), {1: 1, 2: 2, 3: 3})

    def test_no_specimen_in_common(self):
        setup = [sort(1, 0, [1, 5, 2, 5]), sort(2, 0, [3, 5, 4, 5]), meet(3, 0, 1, 2)]
        self.entered(setup)
        self.assertEqual(groups_of(setup, 3, [1, 2, 3, 4]), {1: 0, 2: 0, 3: 0, 4: 0})

    def test_with_an_empty_one(self):
        setup = [A, sort(2, 0, []), meet(3, 5, 1, 2)]
        self.entered(setup)
        self.assertEqual(groups_of(setup, 3, [3, 9]), {3: 0, 9: 0})

    def test_of_64_with_itself_and_with_64_others(self):
        setup = [sort(1, 0, pairs_of(64, 1, 0)), sort(2, 0, pairs_of(64, 101, 0)), meet(3, 0, 1, 1), meet(4, 0, 1, 2)]
        self.entered(setup)
        wanted = dict([(x, (x + 1) // 2) for x in range(1, 65)])
        self.assertEqual(groups_of(setup, 3, range(1, 65)), wanted)


class Join(CallCase):
    def test_groups_that_grow_together_and_their_numbers(self):
        setup = [A, B, join(3, 8, 1, 2)]
        self.entered(setup)
        self.assertEqual(groups_of(setup, 3, [2, 3, 4, 5, 6, 7, 9]), {2: 0, 3: 1, 4: 1, 7: 1, 9: 1, 5: 2, 6: 2})

    def test_no_specimen_in_common(self):
        # One and the same number of a group in two sortings puts nothing together.
        setup = [sort(1, 0, [8, 5, 2, 5]), sort(2, 0, [1, 5, 4, 5, 9, 6]), join(3, 0, 1, 2)]
        self.entered(setup)
        self.assertEqual(groups_of(setup, 3, [1, 2, 4, 8, 9]), {1: 1, 4: 1, 2: 2, 8: 2, 9: 3})

    def test_with_itself(self):
        setup = [sort(1, 0, [1, 9, 2, 8, 3, 9, 4, 7]), join(2, 0, 1, 1)]
        self.assertEqual(groups_of(setup, 2, [1, 2, 3, 4, 5]), {1: 1, 2: 2, 3: 1, 4: 3, 5: 0})

    def test_with_an_empty_one(self):
        setup = [sort(1, 0, []), sort(2, 0, [4, 9, 3, 8]), join(3, 0, 1, 2), join(4, 0, 2, 1), join(5, 0, 1, 1)]
        self.entered(setup)
        self.assertEqual(groups_of(setup, 3, [3, 4]), {3: 1, 4: 2})
        self.assertEqual(groups_of(setup, 4, [3, 4]), {3: 1, 4: 2})
        self.assertEqual(groups_of(setup, 5, [3, 4]), {3: 0, 4: 0})

    def test_a_long_row(self):
        # 1-2, 3-4, .. in the one and 2-3, 4-5, .. in the other: all in one group.
        setup = [sort(1, 0, pairs_of(64, 1, 0)), sort(2, 0, pairs_of(64, 1, 1)), join(3, 0, 1, 2), join(4, 0, 2, 1)]
        self.entered(setup)
        for key in (3, 4):
            self.assertEqual(groups_of(setup, key, range(1, 65)), dict([(x, 1) for x in range(1, 65)]))

    def test_rows_through_specimens_of_one_alone(self):
        setup = [sort(1, 0, [1, 5, 10, 5, 20, 6, 30, 6]), sort(2, 0, [10, 7, 15, 7, 30, 7, 2, 8]), join(3, 0, 1, 2)]
        self.assertEqual(
            groups_of(setup, 3, [1, 2, 10, 15, 20, 30]), {1: 1, 10: 1, 15: 1, 20: 1, 30: 1, 2: 2})

    def test_groups_whose_least_specimens_come_late(self):
        setup = [sort(1, 0, [50, 1, 40, 2, 30, 3]), sort(2, 0, [50, 9, 10, 9, 20, 8]), join(3, 0, 1, 2)]
        self.assertEqual(groups_of(setup, 3, [10, 20, 30, 40, 50]), {10: 1, 50: 1, 20: 2, 30: 3, 40: 4})

    def test_64_and_65_specimens(self):
        parts = [sort(1, 0, pairs_of(32, 1, 0)), sort(2, 0, pairs_of(32, 33, 0)), sort(3, 0, pairs_of(33, 33, 0))]
        self.taken(parts, join(4, 0, 1, 2))
        wanted = dict([(x, (x + 1) // 2) for x in range(1, 65)])
        self.assertEqual(groups_of(parts + [join(4, 0, 2, 1)], 4, range(1, 65)), wanted)
        self.refused(parts, join(4, 0, 1, 3), -9)
        self.refused(parts, join(4, 0, 3, 1), -9)
        # As many numbers, but some of the specimens are in both.
        self.taken([sort(1, 0, pairs_of(64, 1, 0)), sort(2, 0, pairs_of(40, 25, 0))], join(4, 0, 1, 2))

    def test_128_specimens(self):
        self.refused([sort(1, 0, pairs_of(64, 1, 0)), sort(2, 0, pairs_of(64, 65, 0))], join(3, 0, 1, 2), -9)


class Both(CallCase):
    def both(self, check):
        for call in (meet, join):
            with self.subTest(call=call.__name__):
                check(call)

    def test_the_new_one_stays_when_a_or_b_is_withdrawn(self):
        def check(call):
            made = [A, B, call(3, 8, 1, 2)]
            before = groups_of(made, 3, range(3, 10))
            for gone in ([1], [2], [1, 2]):
                setup = made + [withdraw(3, key) for key in gone]
                self.entered(setup)
                self.assertEqual(groups_of(setup, 3, range(3, 10)), before)
                renewed = setup + [sort(key, 0, [3, 1, 4, 2]) for key in gone]
                self.assertEqual(groups_of(renewed, 3, range(3, 10)), before)
        self.both(check)

    def test_a_and_b_stay_when_the_new_one_is_withdrawn(self):
        def check(call):
            setup = [A, B, call(3, 8, 1, 2), withdraw(3, 3), call(3, 8, 2, 1)]
            self.entered(setup)
            self.assertEqual(groups_of(setup, 1, [3, 4, 5]), {3: 50, 4: 60, 5: 70})
            self.assertEqual(groups_of(setup, 2, [3, 4, 5]), {3: 80, 4: 80, 5: 90})
        self.both(check)

    def test_there_from_its_own_day_on(self):
        def check(call):
            self.answers_of([A, B, name(1, 0, 3, [5]), call(3, 10, 1, 1)], [
                (where(1, 3, 9), [-3]), (where(1, 3, 10), [3, 0, 1, 3]),
                (where(1, 3, 11), [3, 0, 1, 3])])
        self.both(check)

    def test_ranges_at_their_ends(self):
        def check(call):
            self.taken([sort(1, 0, [1, 1]), sort(KEY, 0, [KEY, KEY])], call(2, 0, 1, KEY))
            self.taken([sort(2, DAY, [1, 1])], call(KEY, DAY, 2, 2))
            self.taken([sort(2, DAY, [1, 1])], call(1, DAY, 2, 2))
        self.both(check)

    def test_key_of_a_name_is_free(self):
        self.both(lambda call: self.taken([A, name(3, 5, 3, [])], call(3, 5, 1, 1)))

    def test_key_used_again_after_withdraw(self):
        self.both(lambda call: self.taken([A, B, withdraw(3, 1)], call(1, 8, 2, 2)))

    def test_form(self):
        def check(call):
            self.all_refused([A, B], [call(key, 8, 1, 2) for key in NO_KEYS], -1)
            self.all_refused([A, B], [call(3, day, 1, 2) for day in NO_DAYS], -1)
        self.both(check)

    def test_key_in_use(self):
        self.both(lambda call: self.all_refused([A, B], [call(1, 8, 1, 2), call(2, 8, 1, 1)], -2))

    def test_no_sorting_of_the_key(self):
        def check(call):
            told = [call(3, 8, 4, 1), call(3, 8, 1, 4), call(3, 8, 4, 4), call(3, 8, 3, 3)]
            told += [call(3, 8, key, 1) for key in NO_KEYS] + [call(3, 8, 1, key) for key in NO_KEYS]
            self.all_refused([A, B, name(4, 0, 3, [])], told, -4)
            self.refused([A, B, withdraw(3, 2)], call(3, 8, 1, 2), -4)
        self.both(check)

    def test_day_ahead_of_that_of_a_or_b(self):
        def check(call):
            self.all_refused([A, B], [call(3, 7, 1, 2), call(3, 7, 2, 1), call(3, 4, 1, 1), call(3, 0, 2, 2)], -6)
            self.taken([A, B], call(3, 5, 1, 1))
        self.both(check)

    def test_the_12th_and_the_13th(self):
        def check(call):
            self.taken(many_sortings(11), call(12, 5, 1, 2))
            self.refused(many_sortings(12), call(13, 5, 1, 2), -9)
            self.taken(many_sortings(12) + [withdraw(3, 7)], call(13, 5, 1, 2))
        self.both(check)


class TheFirstRefusalIsAnswered(CallCase):
    def test_form_ahead_of_all_others(self):
        for call in (meet, join):
            self.all_refused([A, B], [
                call(1, -1, 1, 2), call(0, 8, 4, 4), call(0, 7, 1, 2), call(3, -1, 1, 2), call(3, DAY + 1, 4, 1)], -1)
            self.refused(many_sortings(12), call(0, 5, 1, 2), -1)
            self.refused([A, B], call(FAR, -FAR, FAR, -FAR), -1)

    def test_key_in_use_ahead_of_what_follows(self):
        for call in (meet, join):
            self.all_refused([A, B], [call(1, 8, 4, 1), call(1, 8, 1, 0), call(1, 7, 1, 2)], -2)
            self.refused(many_sortings(12), call(12, 5, 1, 2), -2)

    def test_no_sorting_ahead_of_what_follows(self):
        for call in (meet, join):
            self.all_refused([A, B], [call(3, 4, 1, 4), call(3, 4, 4, 1), call(3, 7, 2, 0)], -4)
            self.refused(many_sortings(12), call(13, 5, 1, 14), -4)

    def test_early_day_ahead_of_the_full_table(self):
        for call in (meet, join):
            self.refused(many_sortings(12), call(13, 4, 1, 2), -6)

    def test_early_day_ahead_of_too_many_specimens(self):
        self.refused([sort(1, 5, pairs_of(64, 1, 0)), sort(2, 5, pairs_of(64, 65, 0))], join(3, 4, 1, 2), -6)
