from tests.calls import (
    CallCase, DAY, FAR, KEY, NO_DAYS, NO_KEYS,
    candidates, fate, name, narrow, sort, withdraw,
)

FIRST = [name(1, 10, 3, [5, 6, 7, 8])]


class Fate(CallCase):
    def fates(self, choices, told):
        """Checks the fate of each choice told, by the latest day."""
        self.answers_of(FIRST + choices, [(fate(key, DAY), [number]) for key, number in told])

    def test_in_force(self):
        for keys in ([5], [8, 5], [5, 6, 7]):
            self.fates([narrow(1, 20, 1, keys)], [(1, 0)])

    def test_one_that_isnt_among_the_candidates(self):
        for keys in ([9], [5, 9], [9, 5, 6], [5, 6, 7, 8, 9], [1], [5, 6, 7, 10]):
            self.fates([narrow(1, 20, 1, keys)], [(1, 1)])

    def test_all_candidates(self):
        for keys in ([5, 6, 7, 8], [8, 6, 5, 7]):
            self.fates([narrow(1, 20, 1, keys)], [(1, 2)])

    def test_each_among_the_candidates_at_its_point(self):
        self.fates(
            [narrow(1, 20, 1, [5, 6, 7]), narrow(2, 30, 1, [5, 8]), narrow(3, 40, 1, [7, 6]), narrow(4, 50, 1, [6, 7]),
             narrow(5, 60, 1, [5, 6, 7]), narrow(6, 70, 1, [6]), narrow(7, 80, 1, [6]), narrow(8, 90, 1, [7])],
            [(1, 0), (2, 1), (3, 0), (4, 2), (5, 1), (6, 0), (7, 2), (8, 1)])

    def test_order_is_by_day_not_as_they_came(self):
        self.fates([narrow(1, 40, 1, [5]), narrow(2, 30, 1, [5, 6]), narrow(3, 20, 1, [6])], [(1, 1), (2, 1), (3, 0)])
        self.fates([narrow(3, 20, 1, [6]), narrow(1, 40, 1, [5]), narrow(2, 30, 1, [6])], [(1, 1), (2, 2), (3, 0)])

    def test_at_one_day_by_key(self):
        self.fates([narrow(9, 20, 1, [5]), narrow(3, 20, 1, [6])], [(3, 0), (9, 1)])
        self.fates([narrow(10, 20, 1, [6, 5]), narrow(9, 20, 1, [5, 6])], [(9, 0), (10, 2)])
        self.fates([narrow(9, 20, 1, [5, 6]), narrow(10, 20, 1, [5])], [(9, 0), (10, 0)])

    def test_a_later_choice_has_no_bearing(self):
        for later in (narrow(2, 21, 1, [5]), narrow(2, 20, 1, [6]), narrow(2, DAY, 1, [8])):
            self.fates([narrow(1, 20, 1, [5, 6]), later], [(1, 0)])
        self.fates([narrow(2, 21, 1, [5]), narrow(1, 20, 1, [5, 6, 7, 8])], [(1, 2), (2, 0)])
        self.fates([narrow(1, 20, 1, [9]), narrow(2, 21, 1, [5])], [(1, 1), (2, 0)])

    def test_choices_without_force_are_passed_over(self):
        self.fates(
            [narrow(1, 20, 1, [5, 9]), narrow(2, 20, 1, [8, 7, 6, 5]), narrow(3, 20, 1, [7, 8])],
            [(1, 1), (2, 2), (3, 0)])

    def test_the_day_told(self):
        self.answers_of(FIRST + [narrow(1, 20, 1, [5, 6]), narrow(2, 30, 1, [7])], [
            (fate(1, 19), [-8]), (fate(1, 20), [0]), (fate(1, 21), [0]), (fate(1, 30), [0]), (fate(1, DAY), [0]),
            (fate(2, 20), [-8]), (fate(2, 29), [-8]), (fate(2, 30), [1])])

    def test_choices_on_other_names(self):
        setup = FIRST + [
            name(2, 10, 3, [5, 6]), narrow(1, 20, 1, [5]), narrow(2, 21, 2, [6, 5]), narrow(3, 22, 2, [6]),
            narrow(4, 23, 1, [6])]
        self.answers_of(setup, [(fate(key, 30), [number]) for key, number in ((1, 0), (2, 2), (3, 0), (4, 1))])

    def test_on_names_of_unlike_ranks(self):
        setup = FIRST + [
            name(2, 10, 3, []), name(3, 10, 2, [1, 2]), name(4, 10, 2, []), name(5, 10, 1, [3, 4]),
            narrow(1, 10, 3, [2]), narrow(2, 10, 5, [4, 3]), narrow(3, 11, 5, [3]), narrow(4, 12, 3, [5]),
            narrow(5, 12, 5, [1])]
        self.answers_of(setup, [
            (fate(key, 12), [number]) for key, number in ((1, 0), (2, 2), (3, 0), (4, 1), (5, 1))])

    def test_on_a_name_without_candidates(self):
        self.answers_of([name(1, 0, 3, []), narrow(1, 0, 1, [5])], [(fate(1, 0), [1])])

    def test_a_choice_withdrawn(self):
        choices = [narrow(1, 20, 1, [5, 6]), narrow(2, 30, 1, [7]), narrow(3, 40, 1, [6, 5])]
        self.fates(choices, [(1, 0), (2, 1), (3, 2)])
        self.answers_of(FIRST + choices + [withdraw(2, 1)], [
            (fate(1, DAY), [-8]), (fate(2, DAY), [0]), (fate(3, DAY), [1])])
        self.fates(choices + [withdraw(2, 2)], [(1, 0), (3, 2)])
        self.fates(choices + [withdraw(2, 1), narrow(1, 35, 1, [5, 6])], [(1, 1), (2, 0), (3, 1)])

    def test_lists_of_twelve(self):
        setup = [
            name(1, 0, 3, range(1, 13)), narrow(1, 0, 1, range(12, 0, -1)), narrow(2, 0, 1, range(2, 14)),
            narrow(3, 0, 1, range(2, 13))]
        self.answers_of(setup, [(fate(1, 0), [2]), (fate(2, 0), [1]), (fate(3, 0), [0])])

    def test_96_choices(self):
        setup = [name(1, 0, 3, range(1, 13))]
        setup += [narrow(97 - place, place, 1, range(1, max(13 - place, 1) + 1)) for place in range(1, 97)]
        told = [(fate(96, DAY), [2])]
        told += [(fate(97 - place, DAY), [0]) for place in range(2, 13)]
        told += [(fate(97 - place, DAY), [2]) for place in range(13, 97)]
        self.answers_of(setup, told)

    def test_ranges_at_their_ends(self):
        setup = [name(1, 0, 3, [1, KEY]), narrow(KEY, 0, 1, [KEY]), narrow(1, DAY, 1, [1])]
        self.answers_of(setup, [(fate(KEY, 0), [0]), (fate(1, DAY - 1), [-8]), (fate(1, DAY), [1])])

    def test_asking_changes_nothing(self):
        setup = FIRST + [narrow(1, 20, 1, [5, 6]), narrow(2, 30, 1, [6])]
        asked = [(fate(2, 30), [0]), (fate(1, 30), [0]), (candidates(1, 20), [2, 5, 6]), (candidates(1, 30), [1, 6])]
        self.answers_of(setup, asked + asked)


class FateIsRefused(CallCase):
    def test_day_that_is_none(self):
        setup = FIRST + [narrow(1, 20, 1, [5])]
        self.all_refused(setup, [fate(key, day) for key in (1, 2, 0, FAR) for day in NO_DAYS], -1)

    def test_no_choice_of_the_key(self):
        setup = FIRST + [name(2, 0, 3, []), sort(3, 0, []), narrow(1, 20, 1, [5])]
        setup += [narrow(4, 20, 1, [5]), withdraw(2, 4)]
        self.all_refused(setup, [fate(key, 30) for key in NO_KEYS + (2, 3, 4, 5, KEY)], -8)

    def test_a_later_day(self):
        setup = FIRST + [narrow(1, 20, 1, [5])]
        self.all_refused(setup, [fate(1, day) for day in (0, 9, 10, 19)], -8)
