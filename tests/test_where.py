from tests.calls import (
    CallCase, DAY, KEY, NO_DAYS, NO_KEYS,
    join, name, narrow, sort, where, withdraw,
)

# Sorting 6: 70 and 80 in group 300, 90 in group 200. Specimen 60 is nowhere.
SOME = [
    name(1, 5, 3, [70, 80]), name(2, 5, 3, [80, 90]), name(3, 5, 3, [60]), name(4, 5, 3, []), name(5, 5, 3, [60, 70]),
    name(11, 5, 2, [1, 2]), name(12, 5, 2, [1, 4]), name(13, 5, 2, [1]), name(21, 5, 1, [13]), name(22, 5, 1, [11, 12]),
    sort(6, 5, [80, 300, 70, 300, 90, 200]),
]


class Where(CallCase):
    def test_falls_in_a_group(self):
        self.answers_of(SOME, [(where(key, 6, 5), [300, 0, 1, 300]) for key in (1, 13, 21)])

    def test_touches_several(self):
        self.answers_of(SOME, [(where(2, 6, 5), [0, 0, 2, 200, 300]), (where(11, 6, 5), [0, 0, 2, 200, 300])])

    def test_nowhere(self):
        self.answers_of(SOME, [(where(3, 6, 5), [0, 0, 1, 0]), (where(5, 6, 5), [0, 0, 2, 0, 300])])

    def test_a_chain_into_nothing(self):
        self.answers_of(SOME, [
            (where(4, 6, 5), [0, 1, 0]), (where(12, 6, 5), [0, 1, 1, 300]), (where(22, 6, 5), [0, 1, 2, 200, 300])])

    def test_in_an_empty_sorting(self):
        setup = SOME + [sort(7, 5, [])]
        self.answers_of(setup, [
            (where(1, 7, 5), [0, 0, 1, 0]), (where(4, 7, 5), [0, 1, 0]), (where(12, 7, 5), [0, 1, 1, 0])])

    def test_choices_from_their_days_on(self):
        setup = SOME + [narrow(1, 6, 2, [90]), narrow(2, 7, 11, [2]), narrow(3, 8, 12, [1]), narrow(4, 9, 5, [60])]
        self.answers_of(setup, [
            (where(2, 6, 5), [0, 0, 2, 200, 300]), (where(2, 6, 6), [200, 0, 1, 200]),
            (where(11, 6, 6), [0, 0, 2, 200, 300]), (where(11, 6, 7), [200, 0, 1, 200]),
            (where(12, 6, 7), [0, 1, 1, 300]), (where(12, 6, 8), [300, 0, 1, 300]),
            (where(5, 6, 8), [0, 0, 2, 0, 300]), (where(5, 6, 9), [0, 0, 1, 0])])

    def test_many_groups_ascending(self):
        keys = []
        for specimen in range(1, 13):
            keys += [specimen, KEY + 1 - specimen]
        setup = [name(1, 0, 3, range(1, 13)), sort(1, 0, keys)]
        self.answers_of(setup, [(where(1, 1, 0), [0, 0, 12] + list(range(KEY - 11, KEY + 1)))])

    def test_sortings_are_apart(self):
        setup = SOME + [sort(7, 5, [70, 1, 80, 2]), join(8, 5, 6, 7)]
        self.answers_of(setup, [
            (where(1, 6, 5), [300, 0, 1, 300]), (where(1, 7, 5), [0, 0, 2, 1, 2]), (where(1, 8, 5), [1, 0, 1, 1])])

    def test_days_of_the_name_and_of_the_sorting(self):
        setup = [name(1, 5, 3, [7]), name(2, 9, 3, [7]), sort(6, 7, [7, 30])]
        self.answers_of(setup, [
            (where(1, 6, 4), [-4]), (where(1, 6, 5), [-3]), (where(1, 6, 6), [-3]), (where(1, 6, 7), [30, 0, 1, 30]),
            (where(2, 6, 6), [-4]), (where(2, 6, 8), [-4]), (where(2, 6, 9), [30, 0, 1, 30]),
            (where(2, 6, DAY), [30, 0, 1, 30])])


class WhereIsRefused(CallCase):
    def test_day_that_is_none(self):
        told = [where(key, sorting, day) for key in (1, 99) for sorting in (6, 99) for day in NO_DAYS]
        self.all_refused(SOME, told, -1)

    def test_name_that_isnt_there(self):
        self.all_refused(SOME, [where(key, 6, 5) for key in NO_KEYS + (6, 99)], -4)
        self.refused(SOME + [withdraw(1, 3)], where(3, 6, 5), -4)

    def test_sorting_that_isnt_there(self):
        self.all_refused(SOME, [where(1, key, 5) for key in NO_KEYS + (1, 99)], -3)
        self.refused(SOME + [withdraw(3, 6)], where(1, 6, 5), -3)

    def test_name_ahead_of_the_sorting(self):
        told = [where(key, sorting, 5) for key in (99, 0) for sorting in (99, 0)] + [where(1, 6, 4)]
        self.all_refused(SOME, told, -4)
