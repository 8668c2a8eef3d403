from tests.calls import (
    CallCase, DAY, KEY, NO_DAYS, NO_KEYS,
    many_names, name, narrow, sort, through, withdraw,
)

# Species 1 to 4, 4 without candidates; genera 11 to 14, 14 without; families 21 to 23.
TREE = [
    name(1, 5, 3, [70, 80]), name(2, 5, 3, [80, 90]), name(3, 5, 3, [60]), name(4, 5, 3, []),
    name(14, 5, 2, []), name(13, 5, 2, [4]), name(12, 5, 2, [3, 4]), name(11, 5, 2, [1, 2]),
    name(23, 5, 1, [11]), name(22, 5, 1, [13, 14]), name(21, 5, 1, [11, 12]),
]


class Through(CallCase):
    def test_species(self):
        self.answers_of(TREE, [
            (through(1, 5), [4, 1, 11, 21, 23]), (through(2, 5), [4, 2, 11, 21, 23]), (through(3, 5), [3, 3, 12, 21])])

    def test_genera(self):
        self.answers_of(TREE, [
            (through(11, 5), [3, 11, 21, 23]), (through(12, 5), [2, 12, 21]), (through(13, 5), [2, 13, 22])])

    def test_families(self):
        self.answers_of(TREE, [(through(key, 5), [1, key]) for key in (21, 22, 23)])

    def test_a_name_without_candidates(self):
        self.answers_of(TREE, [(through(4, 5), [5, 4, 12, 13, 21, 22]), (through(14, 5), [2, 14, 22])])
        self.answers_of([name(1, 0, 1, [])], [(through(1, 0), [1, 1])])

    def test_by_an_earlier_day_only(self):
        setup = TREE + [narrow(1, 7, 21, [11]), narrow(2, 8, 11, [2])]
        self.answers_of(setup, [
            (through(3, 6), [3, 3, 12, 21]), (through(3, 7), [2, 3, 12]), (through(12, 7), [1, 12]),
            (through(1, 7), [4, 1, 11, 21, 23]), (through(1, 8), [1, 1]), (through(2, 8), [4, 2, 11, 21, 23]),
            (through(1, 5), [4, 1, 11, 21, 23])])

    def test_names_from_their_day_on(self):
        setup = [name(1, 5, 3, []), name(2, 7, 2, [1]), name(3, 9, 1, [2])]
        self.answers_of(setup, [
            (through(1, 5), [1, 1]), (through(1, 6), [1, 1]), (through(1, 7), [2, 1, 2]), (through(1, 8), [2, 1, 2]),
            (through(1, 9), [3, 1, 2, 3]), (through(2, 8), [1, 2]), (through(2, DAY), [2, 2, 3])])

    def test_specimens_with_the_numbers_of_names(self):
        setup = [name(1, 0, 3, [2, 3]), name(2, 0, 3, [1]), name(3, 0, 2, [1])]
        self.answers_of(setup, [(through(1, 0), [2, 1, 3]), (through(2, 0), [1, 2]), (through(3, 0), [1, 3])])

    def test_a_choice_without_force(self):
        setup = TREE + [narrow(1, 5, 11, [1, 3]), narrow(2, 5, 11, [2, 1])]
        self.answers_of(setup, [(through(3, 5), [3, 3, 12, 21]), (through(2, 5), [4, 2, 11, 21, 23])])

    def test_a_name_withdrawn(self):
        self.answers_of(TREE + [withdraw(1, 23)], [(through(1, 5), [3, 1, 11, 21])])

    def test_48_names_ascending(self):
        setup = [name(KEY, 0, 3, [1])] + [name(48 - key, 0, 2, [KEY]) for key in range(1, 48)]
        self.answers_of(setup, [(through(KEY, 0), [48] + list(range(1, 48)) + [KEY]), (through(1, 0), [1, 1])])


class ThroughIsRefused(CallCase):
    def test_day_that_is_none(self):
        self.all_refused(TREE, [through(key, day) for key in (1, 99, 0) for day in NO_DAYS], -1)

    def test_name_that_isnt_there(self):
        setup = many_names(3) + [narrow(9, 5, 1, [7]), sort(9, 0, []), withdraw(1, 3)]
        self.all_refused(setup, [through(1, 4), through(9, 5), through(3, 5)] + [
            through(key, 5) for key in NO_KEYS], -4)
