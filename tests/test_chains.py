from tests.calls import (
    CallCase, DAY, NO_DAYS, NO_KEYS,
    anchor, many_names, name, narrow, reach, same, sort, withdraw,
)

# Species 1 to 4, 4 without candidates; genera 11 to 14; families 21 to 23.
TREE = [
    name(1, 5, 3, [70, 80]), name(2, 5, 3, [80, 90]), name(3, 5, 3, [60]), name(4, 5, 3, []),
    name(11, 5, 2, [1, 2]), name(12, 5, 2, [3, 4]), name(13, 5, 2, [4]), name(14, 5, 2, []),
    name(21, 5, 1, [11, 12]), name(22, 5, 1, [13, 14]), name(23, 5, 1, [11]),
]


class Reach(CallCase):
    def test_at_each_rank(self):
        self.answers_of(TREE, [
            (reach(1, 5), [0, 2, 70, 80]), (reach(4, 5), [1, 0]), (reach(11, 5), [0, 3, 70, 80, 90]),
            (reach(12, 5), [1, 1, 60]), (reach(13, 5), [1, 0]), (reach(14, 5), [1, 0]),
            (reach(21, 5), [1, 4, 60, 70, 80, 90]), (reach(22, 5), [1, 0]), (reach(23, 5), [0, 3, 70, 80, 90])])

    def test_choices_along_the_chains(self):
        setup = TREE + [narrow(1, 7, 21, [11]), narrow(2, 8, 11, [2]), narrow(3, 9, 2, [90])]
        self.answers_of(setup, [
            (reach(21, 6), [1, 4, 60, 70, 80, 90]), (reach(21, 7), [0, 3, 70, 80, 90]),
            (reach(21, 8), [0, 2, 80, 90]), (reach(21, 9), [0, 1, 90]), (reach(11, 8), [0, 2, 80, 90]),
            (reach(23, 9), [0, 1, 90]), (reach(1, 9), [0, 2, 70, 80])])

    def test_a_chain_into_nothing_left_out(self):
        self.answers_of(TREE + [narrow(1, 6, 12, [3])], [(reach(12, 5), [1, 1, 60]), (reach(12, 6), [0, 1, 60])])

    def test_a_chain_into_nothing_chosen(self):
        self.answers_of(TREE + [narrow(1, 6, 12, [4])], [(reach(12, 6), [1, 0]), (reach(21, 6), [1, 3, 70, 80, 90])])

    def test_specimens_with_the_numbers_of_names(self):
        setup = [name(1, 0, 3, [2, 3]), name(2, 0, 3, [1]), name(3, 0, 2, [1]), name(4, 0, 1, [3])]
        self.answers_of(setup, [(reach(1, 0), [0, 2, 2, 3]), (reach(3, 0), [0, 2, 2, 3]), (reach(4, 0), [0, 2, 2, 3])])

    def test_many_specimens(self):
        setup = []
        for key in range(1, 13):
            setup.append(name(key, 0, 3, range(1000 - 12 * key, 1012 - 12 * key)))
        setup += [name(20, 0, 2, range(1, 13)), name(21, 0, 1, [20])]
        wanted = [0, 144] + list(range(856, 1000))
        self.answers_of(setup, [(reach(20, 0), wanted), (reach(21, 0), wanted)])

    def test_a_day_before_at_and_behind(self):
        self.answers_of(TREE, [(reach(1, 4), [-4]), (reach(1, 5), [0, 2, 70, 80]), (reach(1, DAY), [0, 2, 70, 80])])


class Anchor(CallCase):
    def test_at_each_rank(self):
        self.answers_of(TREE, [
            (anchor(1, 5), [2, 1]), (anchor(3, 5), [1, 60]), (anchor(4, 5), [0, 0]), (anchor(11, 5), [2, 11]),
            (anchor(12, 5), [2, 12]), (anchor(13, 5), [0, 0]), (anchor(14, 5), [0, 0]),
            (anchor(21, 5), [2, 21]), (anchor(22, 5), [0, 0]), (anchor(23, 5), [2, 11])])

    def test_one_candidate_hands_its_anchor_up(self):
        setup = [name(1, 0, 3, [7]), name(2, 0, 2, [1]), name(3, 0, 1, [2])]
        self.answers_of(setup, [(anchor(key, 0), [1, 7]) for key in (1, 2, 3)])

    def test_lower_keys_at_the_upper_ranks(self):
        setup = [
            name(30, 0, 3, [7]), name(31, 0, 3, []), name(20, 0, 2, [30]), name(21, 0, 2, [31]), name(10, 0, 1, [20])]
        self.answers_of(setup, [(anchor(10, 0), [1, 7]), (anchor(20, 0), [1, 7]), (anchor(21, 0), [0, 0])])

    def test_several_candidates_with_one_anchor(self):
        setup = [
            name(1, 0, 3, [7]), name(2, 0, 3, [7]), name(3, 0, 2, [1, 2]), name(4, 0, 2, [2]), name(5, 0, 1, [3, 4])]
        self.answers_of(setup, [(anchor(key, 0), [1, 7]) for key in (3, 4, 5)])

    def test_one_that_differs(self):
        # Two species with the same two specimens have unlike anchors: either may be chosen from.
        setup = [
            name(1, 0, 3, [7]), name(2, 0, 3, [7]), name(3, 0, 3, [8]), name(4, 0, 3, []),
            name(5, 0, 2, [1, 2, 3]), name(6, 0, 2, [3, 1, 2]), name(7, 0, 2, [1, 2, 4]), name(8, 0, 2, [4, 1]),
            name(10, 0, 3, [7, 8]), name(11, 0, 3, [7, 8]), name(12, 0, 2, [10, 11])]
        self.answers_of(setup, [(anchor(key, 0), [2, key]) for key in (5, 6, 7, 8, 10, 11, 12)])

    def test_two_genera_with_one_species(self):
        setup = [name(1, 0, 3, [7, 8]), name(2, 0, 2, [1]), name(3, 0, 2, [1]), name(4, 0, 1, [2, 3])]
        self.answers_of(setup, [(anchor(key, 0), [2, 1]) for key in (1, 2, 3, 4)])

    def test_candidates_all_without_any(self):
        setup = [name(1, 0, 3, []), name(2, 0, 3, []), name(3, 0, 2, [1, 2]), name(4, 0, 2, []), name(5, 0, 1, [3, 4])]
        self.answers_of(setup, [(anchor(key, 0), [0, 0]) for key in (1, 3, 4, 5)])

    def test_choices_from_their_days_on(self):
        setup = TREE + [narrow(1, 6, 1, [80]), narrow(2, 7, 2, [80]), narrow(3, 8, 21, [11])]
        self.answers_of(setup, [
            (anchor(1, 5), [2, 1]), (anchor(1, 6), [1, 80]), (anchor(11, 6), [2, 11]), (anchor(11, 7), [1, 80]),
            (anchor(21, 7), [2, 21]), (anchor(21, 8), [1, 80]), (anchor(23, 6), [2, 11]), (anchor(23, 7), [1, 80])])


class Same(CallCase):
    def test_one_anchor(self):
        setup = [name(1, 0, 3, [7]), name(2, 0, 3, [7]), name(3, 0, 2, [1]), name(4, 0, 3, [7, 8]), name(5, 0, 2, [4])]
        self.answers_of(setup, [
            (same(1, 2, 0), [2]), (same(2, 1, 0), [2]), (same(1, 3, 0), [2]),
            (same(4, 5, 0), [2]), (same(5, 4, 0), [2])])

    def test_a_name_and_itself(self):
        self.answers_of(TREE, [
            (same(1, 1, 5), [2]), (same(21, 21, 5), [2]), (same(4, 4, 5), [0]), (same(22, 22, 5), [0])])

    def test_a_specimen_in_common(self):
        self.answers_of(TREE, [
            (same(1, 2, 5), [1]), (same(2, 1, 5), [1]), (same(1, 11, 5), [1]),
            (same(21, 3, 5), [1]), (same(12, 3, 5), [1])])

    def test_nothing_in_common(self):
        self.answers_of(TREE, [
            (same(1, 3, 5), [0]), (same(3, 1, 5), [0]), (same(4, 14, 5), [0]), (same(22, 13, 5), [0]),
            (same(1, 4, 5), [0]), (same(22, 21, 5), [0])])

    def test_the_same_candidates_are_not_the_same_anchor(self):
        self.answers_of([name(1, 0, 3, [7, 8]), name(2, 0, 3, [7, 8])], [(same(1, 2, 0), [1])])

    def test_a_specimen_and_a_name_of_one_number(self):
        # The anchors 1 2 and 2 2 differ.
        self.answers_of([name(1, 0, 3, [2]), name(2, 0, 3, [5, 6])], [(same(1, 2, 0), [0])])

    def test_choices_from_their_days_on(self):
        setup = TREE + [narrow(1, 6, 1, [80]), narrow(2, 7, 2, [90])]
        self.answers_of(setup, [(same(1, 2, 5), [1]), (same(1, 2, 6), [1]), (same(1, 2, 7), [0])])

    def test_names_of_unlike_days(self):
        setup = [name(1, 5, 3, [7]), name(2, 8, 3, [7])]
        self.answers_of(setup, [
            (same(1, 2, 4), [-4]), (same(1, 2, 7), [-4]), (same(2, 1, 7), [-4]), (same(1, 2, 8), [2])])


class ChainsAreRefused(CallCase):
    def test_day_that_is_none(self):
        for ask in (reach, anchor):
            self.all_refused(TREE, [ask(key, day) for key in (1, 99, 0) for day in NO_DAYS], -1)
        told = [same(a, b, day) for a in (1, 99) for b in (1, 99) for day in NO_DAYS]
        self.all_refused(TREE, told, -1)

    def test_name_that_isnt_there(self):
        setup = many_names(3) + [narrow(9, 5, 1, [7]), sort(9, 0, []), withdraw(1, 3)]
        for ask in (reach, anchor):
            told = [ask(1, 4), ask(9, 5), ask(3, 5)] + [ask(key, 5) for key in NO_KEYS]
            self.all_refused(setup, told, -4)
        told = [same(1, key, 5) for key in NO_KEYS + (9, 3)] + [same(key, 1, 5) for key in NO_KEYS + (9, 3)]
        self.all_refused(setup, told + [same(1, 2, 4), same(9, 9, 5)], -4)
