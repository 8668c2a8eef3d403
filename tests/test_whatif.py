from tests.calls import (
    CallCase, DAY, FAR, KEY, NO_DAYS, NO_KEYS,
    anchor, candidates, name, narrow, reach, sort, where, whatif, withdraw,
)

# Sorting 6: 70 and 80 in group 300, 90 in group 200. Specimen 60 is nowhere, species 4 has nothing.
SOME = [
    name(1, 5, 3, [70, 80]), name(2, 5, 3, [80, 90]), name(3, 5, 3, [60, 70]), name(4, 5, 3, []),
    name(11, 5, 2, [1, 2]), name(12, 5, 2, [1, 4]), name(13, 5, 2, [3]), name(21, 5, 1, [11, 12]), name(22, 5, 1, [13]),
    sort(6, 5, [80, 300, 70, 300, 90, 200]),
]


class Whatif(CallCase):
    def test_other_is_the_name(self):
        self.answers_of(SOME, [
            (whatif(2, 6, 2, 80, 5), [300, 0, 1, 300]), (whatif(2, 6, 2, 90, 5), [200, 0, 1, 200]),
            (whatif(3, 6, 3, 60, 5), [0, 0, 1, 0]), (whatif(3, 6, 3, 70, 5), [300, 0, 1, 300]),
            (whatif(11, 6, 11, 1, 5), [300, 0, 1, 300]), (whatif(11, 6, 11, 2, 5), [0, 0, 2, 200, 300]),
            (whatif(12, 6, 12, 1, 5), [300, 0, 1, 300]), (whatif(12, 6, 12, 4, 5), [0, 1, 0]),
            (whatif(21, 6, 21, 11, 5), [0, 0, 2, 200, 300]), (whatif(21, 6, 21, 12, 5), [0, 1, 1, 300])])

    def test_other_is_below_the_name(self):
        self.answers_of(SOME, [
            (whatif(11, 6, 2, 80, 5), [300, 0, 1, 300]), (whatif(11, 6, 2, 90, 5), [0, 0, 2, 200, 300]),
            (whatif(21, 6, 12, 1, 5), [0, 0, 2, 200, 300]), (whatif(21, 6, 2, 80, 5), [0, 1, 1, 300]),
            (whatif(22, 6, 3, 60, 5), [0, 0, 1, 0]), (whatif(22, 6, 3, 70, 5), [300, 0, 1, 300])])

    def test_other_below_at_several_places(self):
        setup = [
            name(1, 0, 3, [7, 8]), name(2, 0, 2, [1]), name(3, 0, 2, [1]), name(4, 0, 1, [2, 3]),
            sort(1, 0, [7, 30, 8, 40])]
        self.answers_of(setup, [(where(4, 1, 0), [0, 0, 2, 30, 40]), (whatif(4, 1, 1, 8, 0), [40, 0, 1, 40])])

    def test_other_that_the_name_doesnt_go_through(self):
        self.answers_of(SOME, [
            (whatif(1, 6, 2, 90, 5), [300, 0, 1, 300]), (whatif(1, 6, 11, 2, 5), [300, 0, 1, 300]),
            (whatif(2, 6, 3, 60, 5), [0, 0, 2, 200, 300]), (whatif(12, 6, 21, 11, 5), [0, 1, 1, 300]),
            (whatif(4, 6, 1, 70, 5), [0, 1, 0])])

    def test_other_that_the_name_goes_through_no_more(self):
        setup = SOME + [narrow(1, 7, 11, [1])]
        self.answers_of(setup, [
            (whatif(11, 6, 2, 80, 6), [300, 0, 1, 300]), (whatif(11, 6, 2, 90, 6), [0, 0, 2, 200, 300]),
            (whatif(11, 6, 2, 90, 7), [300, 0, 1, 300])])

    def test_one_candidate_already(self):
        self.answers_of(SOME, [(whatif(22, 6, 13, 3, 5), [0, 0, 2, 0, 300]), (where(22, 6, 5), [0, 0, 2, 0, 300])])

    def test_a_name_with_choices(self):
        setup = [
            name(1, 0, 3, [5, 6, 7, 8]), narrow(1, 10, 1, [6, 7, 8]), narrow(2, 20, 1, [7, 8]), narrow(3, 20, 1, [5]),
            sort(1, 0, [5, 50, 6, 60, 7, 70, 8, 80])]
        self.answers_of(setup, [
            (whatif(1, 1, 1, 5, 9), [50, 0, 1, 50]), (whatif(1, 1, 1, 5, 10), [-5]), (whatif(1, 1, 1, 5, 20), [-5]),
            (whatif(1, 1, 1, 6, 19), [60, 0, 1, 60]), (whatif(1, 1, 1, 6, 20), [-5]),
            (whatif(1, 1, 1, 8, 20), [80, 0, 1, 80]), (whatif(1, 1, 1, 8, DAY), [80, 0, 1, 80])])

    def test_choices_on_other_names_stay(self):
        setup = SOME + [narrow(1, 6, 2, [90]), narrow(2, 6, 12, [1])]
        self.answers_of(setup, [
            (whatif(21, 6, 1, 70, 6), [0, 0, 2, 200, 300]), (whatif(21, 6, 21, 12, 6), [300, 0, 1, 300]),
            (whatif(11, 6, 11, 2, 6), [200, 0, 1, 200])])

    def test_candidates_are_names_by_the_rank_of_other(self):
        # The number 2 is a specimen for the species 1 and a name for the genus 3.
        setup = [
            name(1, 0, 3, [2, 7]), name(2, 0, 3, [9]), name(3, 0, 2, [1, 2]),
            sort(1, 0, [2, 20, 7, 70, 9, 90])]
        self.answers_of(setup, [
            (whatif(3, 1, 3, 2, 0), [90, 0, 1, 90]), (whatif(3, 1, 1, 2, 0), [0, 0, 2, 20, 90]),
            (whatif(3, 1, 3, 1, 0), [0, 0, 2, 20, 70]), (whatif(1, 1, 3, 2, 0), [0, 0, 2, 20, 70])])

    def test_in_an_empty_sorting(self):
        self.answers_of(SOME + [sort(7, 5, [])], [
            (whatif(2, 7, 2, 80, 5), [0, 0, 1, 0]), (whatif(12, 7, 12, 4, 5), [0, 1, 0])])

    def test_all_is_as_before_behind_it(self):
        asks = [where(21, 6, 5), where(2, 6, 5), candidates(2, 5), candidates(11, 5), reach(21, 5), anchor(12, 5)]
        before = [
            [0, 1, 2, 200, 300], [0, 0, 2, 200, 300], [2, 80, 90], [2, 1, 2], [1, 3, 70, 80, 90], [2, 12]]
        told = []
        for call, answer in (
                (whatif(2, 6, 2, 80, 5), [300, 0, 1, 300]), (whatif(12, 6, 12, 4, 5), [0, 1, 0]),
                (whatif(11, 6, 11, 1, 5), [300, 0, 1, 300]), (whatif(1, 6, 1, 90, 5), [-5])):
            told += [(call, answer)] + list(zip(asks, before))
        self.answers_of(SOME, told)
        # Choices go on from what the tables hold, not from what was supposed.
        tail = [whatif(2, 6, 2, 80, 5), narrow(1, 5, 2, [90])]
        self.answers_of(SOME, [(tail[0], [300, 0, 1, 300]), (tail[1], [0]), (candidates(2, 5), [1, 90])])

    def test_ranges_at_their_ends(self):
        setup = [name(KEY, DAY, 3, [KEY, 1]), sort(KEY, DAY, [KEY, KEY, 1, 1])]
        self.answers_of(setup, [
            (whatif(KEY, KEY, KEY, KEY, DAY), [KEY, 0, 1, KEY]), (whatif(KEY, KEY, KEY, 1, DAY), [1, 0, 1, 1])])


class WhatifIsRefused(CallCase):
    def test_day_that_is_none(self):
        told = [whatif(1, 6, 1, 70, day) for day in NO_DAYS]
        told += [whatif(99, 6, 1, 70, -1), whatif(1, 99, 1, 70, -1), whatif(1, 6, 99, 70, -1), whatif(1, 6, 1, 99, -1)]
        self.all_refused(SOME, told + [whatif(0, 0, 0, 0, DAY + 1)], -1)

    def test_name_that_isnt_there(self):
        self.all_refused(SOME, [whatif(key, 6, 1, 70, 5) for key in NO_KEYS + (6, 99)], -4)
        self.refused(SOME + [name(9, 6, 3, [70])], whatif(9, 6, 1, 70, 5), -4)

    def test_name_ahead_of_what_follows(self):
        self.all_refused(SOME, [
            whatif(99, 98, 1, 70, 5), whatif(0, 0, 1, 70, 5), whatif(99, 6, 98, 70, 5), whatif(99, 6, 1, 71, 5),
            whatif(1, 6, 1, 70, 4)], -4)

    def test_sorting_that_isnt_there(self):
        self.all_refused(SOME, [whatif(1, key, 1, 70, 5) for key in NO_KEYS + (1, 99)], -3)
        self.refused(SOME + [sort(9, 6, [])], whatif(1, 9, 1, 70, 5), -3)
        self.refused(SOME + [withdraw(3, 6)], whatif(1, 6, 1, 70, 5), -3)

    def test_sorting_ahead_of_other(self):
        self.all_refused(SOME, [whatif(1, 99, 98, 70, 5), whatif(1, 0, 0, 0, 5), whatif(1, 99, 1, 71, 5)], -3)

    def test_other_that_isnt_there(self):
        self.all_refused(SOME, [whatif(1, 6, key, 70, 5) for key in NO_KEYS + (6, 99)], -4)
        self.refused(SOME + [name(9, 6, 3, [70])], whatif(1, 6, 9, 70, 5), -4)
        # Ahead of x.
        self.all_refused(SOME, [whatif(1, 6, 99, 71, 5), whatif(1, 6, 0, 0, 5)], -4)

    def test_x_that_is_no_candidate(self):
        self.all_refused(SOME, [whatif(1, 6, 1, x, 5) for x in NO_KEYS + (71, 90, 1, 300, KEY)], -5)
        self.all_refused(SOME, [whatif(11, 6, 11, 70, 5), whatif(21, 6, 21, 1, 5), whatif(4, 6, 4, 70, 5)], -5)
        self.refused(SOME, whatif(1, 6, 2, 70, 5), -5)
        self.refused(SOME, whatif(1, 6, 1, FAR, 5), -5)

    def test_x_that_was_a_candidate_once(self):
        setup = SOME + [narrow(1, 6, 1, [80])]
        self.refused(setup, whatif(1, 6, 1, 70, 6), -5)
        self.answers_of(setup, [(whatif(1, 6, 1, 70, 5), [300, 0, 1, 300])])
