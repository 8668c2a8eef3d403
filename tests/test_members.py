from tests.calls import (
    CallCase, DAY, FAR, KEY, NO_DAYS, NO_KEYS, NO_RANKS,
    many_names, members, name, narrow, same, sort, synonyms, where, withdraw,
)

# Sorting 6: 70 and 80 in group 300, 90 in group 200. Specimen 60 is nowhere.
SOME = [
    name(5, 5, 3, [80]), name(1, 5, 3, [70, 80]), name(2, 5, 3, [80, 90]), name(3, 5, 3, [60]), name(4, 5, 3, []),
    name(6, 5, 3, [60, 70]), name(7, 5, 3, [90]), name(8, 9, 3, [70]),
    name(15, 5, 2, [5, 1]), name(11, 5, 2, [1]), name(12, 5, 2, [1, 4]), name(13, 5, 2, [2]), name(14, 5, 2, []),
    name(23, 5, 1, [11]), name(21, 5, 1, [15, 11]), name(22, 5, 1, [11, 14]), name(24, 5, 1, [13]),
    sort(6, 5, [80, 300, 70, 300, 90, 200]),
]


class Members(CallCase):
    def test_at_each_rank(self):
        self.answers_of(SOME, [
            (members(6, 300, 3, 5), [2, 1, 5, 2, 2, 6]), (members(6, 200, 3, 5), [1, 7, 1, 2]),
            (members(6, 300, 2, 5), [2, 11, 15, 2, 12, 13]), (members(6, 200, 2, 5), [0, 1, 13]),
            (members(6, 300, 1, 5), [2, 21, 23, 2, 22, 24]), (members(6, 200, 1, 5), [0, 1, 24])])

    def test_a_group_of_no_specimen(self):
        self.answers_of(SOME, [(members(6, group, rank, 5), [0, 0]) for group in (1, 70, 301) for rank in (1, 2, 3)])

    def test_names_from_their_day_on(self):
        self.answers_of(SOME, [
            (members(6, 300, 3, 8), [2, 1, 5, 2, 2, 6]), (members(6, 300, 3, 9), [3, 1, 5, 8, 2, 2, 6])])

    def test_choices_from_their_days_on(self):
        setup = SOME + [narrow(1, 6, 2, [90]), narrow(2, 7, 6, [70]), narrow(3, 8, 12, [1])]
        self.answers_of(setup, [
            (members(6, 300, 3, 6), [2, 1, 5, 1, 6]), (members(6, 200, 3, 6), [2, 2, 7, 0]),
            (members(6, 300, 3, 7), [3, 1, 5, 6, 0]), (members(6, 200, 2, 6), [1, 13, 0]),
            (members(6, 300, 2, 7), [2, 11, 15, 1, 12]), (members(6, 300, 2, 8), [3, 11, 12, 15, 0])])

    def test_a_name_that_touches_nowhere_too(self):
        setup = [name(1, 0, 3, [60, 70]), sort(6, 0, [70, 1])]
        self.answers_of(setup, [(members(6, 1, 3, 0), [0, 1, 1])])

    def test_without_names_and_in_an_empty_sorting(self):
        self.answers_of([sort(6, 0, [70, 1])], [(members(6, 1, rank, 0), [0, 0]) for rank in (1, 2, 3)])
        self.answers_of(SOME + [sort(7, 5, [])], [(members(7, 300, rank, 5), [0, 0]) for rank in (1, 2, 3)])

    def test_48_names_ascending(self):
        setup = list(reversed(many_names(48))) + [sort(1, 5, sum([[x, KEY] for x in range(48, 0, -1)], []))]
        self.answers_of(setup, [(members(1, KEY, 3, 5), [48] + list(range(1, 49)) + [0])])

    def test_ranges_at_their_ends(self):
        setup = [name(1, 0, 3, [1]), name(2, 0, 3, [KEY]), sort(KEY, 0, [1, KEY, KEY, 1])]
        self.answers_of(setup, [
            (members(KEY, KEY, 3, 0), [1, 1, 0]), (members(KEY, 1, 3, DAY), [1, 2, 0]),
            (members(KEY, 1, 1, 0), [0, 0])])


class MembersIsRefused(CallCase):
    def test_form(self):
        self.all_refused(SOME, [members(6, 300, 3, day) for day in NO_DAYS], -1)
        self.all_refused(SOME, [members(6, group, 3, 5) for group in NO_KEYS], -1)
        self.all_refused(SOME, [members(6, 300, rank, 5) for rank in NO_RANKS], -1)

    def test_form_ahead_of_the_sorting(self):
        for sorting in (99, 0, FAR):
            self.all_refused(SOME, [
                members(sorting, 300, 3, -1), members(sorting, 0, 3, 5), members(sorting, KEY + 1, 3, 5),
                members(sorting, 300, 0, 5), members(sorting, 300, 4, 5)], -1)
        self.refused(SOME, members(6, 0, 3, 4), -1)

    def test_sorting_that_isnt_there(self):
        self.all_refused(SOME, [members(key, 300, 3, 5) for key in NO_KEYS + (1, 99)], -3)
        self.refused(SOME, members(6, 300, 3, 4), -3)
        self.refused(SOME + [withdraw(3, 6)], members(6, 300, 3, 5), -3)


# Sorting 6: all specimens from 70 to 79 in group 300, 80 in group 200.
ALIKE = [
    name(9, 5, 3, [70]), name(1, 5, 3, [70]), name(2, 5, 3, [70, 71]), name(3, 5, 3, [71, 70]), name(4, 5, 3, [72]),
    name(5, 5, 3, [80]), name(6, 5, 3, [71, 80]), name(7, 9, 3, [70]), name(8, 5, 3, [70, 60]), name(10, 5, 3, []),
    name(24, 5, 2, [4]), name(22, 5, 2, [2]), name(21, 5, 2, [2]), name(23, 5, 2, [1, 2]), name(25, 5, 2, [4, 10]),
    name(26, 5, 2, [10]),
    name(31, 5, 1, [21]), name(32, 5, 1, [21, 22]), name(33, 5, 1, [24]), name(34, 5, 1, [25]),
    sort(6, 5, sum([[x, 300] for x in range(79, 69, -1)], []) + [80, 200]),
]


class Synonyms(CallCase):
    def test_at_each_rank(self):
        self.answers_of(ALIKE, [
            (synonyms(1, 6, 5), [300, 4, 2, 1, 3, 1, 4, 0, 9, 2]),
            (synonyms(2, 6, 5), [300, 4, 1, 1, 3, 1, 4, 0, 9, 1]),
            (synonyms(4, 6, 5), [300, 4, 1, 0, 2, 0, 3, 0, 9, 0]), (synonyms(5, 6, 5), [200, 0]),
            (synonyms(21, 6, 5), [300, 3, 22, 2, 23, 1, 24, 0]), (synonyms(23, 6, 5), [300, 3, 21, 1, 22, 1, 24, 0]),
            (synonyms(31, 6, 5), [300, 2, 32, 2, 33, 0]), (synonyms(33, 6, 5), [300, 2, 31, 0, 32, 0])])

    def test_names_from_their_day_on(self):
        self.answers_of(ALIKE, [
            (synonyms(1, 6, 8), [300, 4, 2, 1, 3, 1, 4, 0, 9, 2]),
            (synonyms(1, 6, 9), [300, 5, 2, 1, 3, 1, 4, 0, 7, 2, 9, 2])])

    def test_choices_from_their_days_on(self):
        setup = ALIKE + [narrow(1, 6, 6, [71]), narrow(2, 7, 2, [71]), narrow(3, 7, 3, [71]), narrow(4, 7, 8, [60])]
        self.answers_of(setup, [
            (synonyms(6, 6, 6), [300, 5, 1, 0, 2, 1, 3, 1, 4, 0, 9, 0]),
            (synonyms(6, 6, 7), [300, 5, 1, 0, 2, 2, 3, 2, 4, 0, 9, 0]),
            (synonyms(2, 6, 7), [300, 5, 1, 0, 3, 2, 4, 0, 6, 2, 9, 0])])

    def test_as_same_and_where_answer(self):
        setup = ALIKE + [narrow(1, 5, 25, [4])]
        self.answers_of(setup, [
            (synonyms(24, 6, 5), [300, 4, 21, 0, 22, 0, 23, 0, 25, 2]), (same(24, 25, 5), [2]), (same(24, 21, 5), [0]),
            (where(25, 6, 5), [300, 0, 1, 300])])

    def test_alone_in_the_group(self):
        setup = [name(1, 0, 3, [7]), name(2, 0, 2, [1]), sort(KEY, 0, [7, KEY])]
        self.answers_of(setup, [(synonyms(1, KEY, 0), [KEY, 0]), (synonyms(2, KEY, DAY), [KEY, 0])])

    def test_48_names_ascending(self):
        setup = list(reversed(many_names(48))) + [sort(1, 5, sum([[x, 8] for x in range(1, 49)], []))]
        wanted = sum([[key, 0] for key in range(1, 49) if key != 20], [])
        self.answers_of(setup, [(synonyms(20, 1, 5), [8, 47] + wanted)])


class SynonymsIsRefused(CallCase):
    def test_day_that_is_none(self):
        told = [synonyms(key, sorting, day) for key in (1, 99) for sorting in (6, 99) for day in NO_DAYS]
        self.all_refused(ALIKE, told + [synonyms(10, 6, -1)], -1)

    def test_name_that_isnt_there(self):
        told = [synonyms(key, 6, 5) for key in NO_KEYS + (7, 99)]
        # Ahead of the sorting.
        told += [synonyms(99, 99, 5), synonyms(0, 0, 5), synonyms(1, 6, 4)]
        self.all_refused(ALIKE, told, -4)

    def test_sorting_that_isnt_there(self):
        told = [synonyms(1, key, 5) for key in NO_KEYS + (1, 99)]
        # Ahead of a name that falls in no group.
        self.all_refused(ALIKE, told + [synonyms(10, 99, 5), synonyms(6, 0, 5)], -3)

    def test_name_that_falls_in_no_group(self):
        self.all_refused(ALIKE, [synonyms(key, 6, 5) for key in (6, 8, 10, 25, 26, 34)], -5)
        self.all_refused(ALIKE + [sort(7, 5, [])], [synonyms(key, 7, 5) for key in (1, 10, 21, 31)], -5)
