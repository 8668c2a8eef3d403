from tests.calls import (
    CallCase, DAY, FAR, KEY, NO_DAYS, NO_KEYS, NO_RANKS,
    anchor, candidates, last, many_names, name, narrow, reach, run, withdraw,
)

BAD_FORM = (
    [name(key, 5, 3, [7]) for key in NO_KEYS]
    + [name(9, day, 3, [7]) for day in NO_DAYS]
    + [name(9, 5, rank, [7]) for rank in NO_RANKS]
    + [name(9, 5, 3, [7, key]) for key in NO_KEYS]
    + [name(9, 5, 3, [7, 8, 7]), name(9, 5, 3, range(1, 14)), name(9, 5, 3, [4] * 13)]
    + [name(9, 5, 3, range(1, 161)), name(9, 5, 3, [0] * 160), name(9, 5, 3, [FAR] * 160)]
)

# Two species's names, the later one of day 8, a genus's and a family's.
SOME = [name(1, 5, 3, [7, 8]), name(2, 8, 3, [8]), name(3, 5, 2, [1]), name(4, 5, 1, [3])]


class NameIsPutIn(CallCase):
    def test_at_each_rank(self):
        self.answers_of(SOME, [(candidates(key, 8), numbers) for key, numbers in (
            (1, [2, 7, 8]), (2, [1, 8]), (3, [1, 1]), (4, [1, 3]))])

    def test_ranges_at_their_ends(self):
        setup = [name(1, 0, 3, [1, KEY]), name(KEY, DAY, 3, []), name(2, 0, 2, [1]), name(3, 0, 1, [2])]
        self.answers_of(setup, [
            (candidates(1, 0), [2, 1, KEY]), (candidates(KEY, DAY), [0]), (reach(3, 0), [0, 2, 1, KEY])])

    def test_list_in_any_order(self):
        self.answers_of([name(1, 0, 3, [9, 3, 5, 1])], [(candidates(1, 0), [4, 1, 3, 5, 9])])

    def test_empty_list_at_each_rank(self):
        setup = [name(rank, 0, rank, []) for rank in (1, 2, 3)]
        self.answers_of(setup, [(candidates(rank, 0), [0]) for rank in (1, 2, 3)])

    def test_list_of_twelve(self):
        species = many_names(12, first=20)
        keys = list(range(20, 32))
        setup = species + [name(1, 5, 3, keys), name(2, 5, 2, keys)]
        self.answers_of(setup, [(candidates(1, 5), [12] + keys), (reach(2, 5), [0, 12] + keys)])

    def test_a_specimen_with_the_number_of_a_name(self):
        # At rank 3 the list holds specimens: no name need be there, none is looked at.
        setup = SOME + [name(9, 0, 3, [1, 2, 3, 4, 9, 10])]
        self.answers_of(setup, [(reach(9, 0), [0, 6, 1, 2, 3, 4, 9, 10])])

    def test_candidate_of_the_same_day_and_of_an_earlier_one(self):
        self.taken(SOME, name(9, 8, 2, [1, 2]))

    def test_key_of_a_choice_or_a_sorting_is_free(self):
        self.taken(SOME + [narrow(9, 5, 1, [7]), [2, 9, 5, 0]], name(9, 5, 3, [7]))

    def test_key_used_again_after_withdraw(self):
        setup = [name(1, 5, 3, [7]), withdraw(1, 1), name(1, 9, 2, [])]
        self.answers_of(setup, [(candidates(1, 8), [-4]), (candidates(1, 9), [0]), (anchor(1, 9), [0, 0])])

    def test_the_48th_and_the_49th(self):
        self.taken(many_names(47), name(48, 5, 3, [7]))
        self.refused(many_names(48), name(49, 5, 3, [7]), -9)
        self.refused(many_names(48), name(49, 5, 2, [1]), -9)
        self.refused(many_names(48), name(49, 5, 1, []), -9)
        self.taken(many_names(48) + [withdraw(1, 30)], name(49, 5, 3, [7]))


class NameIsRefused(CallCase):
    def test_form(self):
        self.all_refused(SOME, BAD_FORM, -1)

    def test_form_is_looked_at_in_each_argument(self):
        self.taken(SOME, name(9, 5, 3, [7]))
        self.all_refused([], [name(0, -1, 0, [0]), name(FAR, FAR, FAR, [FAR] * 160), name(-FAR, -FAR, -FAR, [])], -1)

    def test_form_of_lists_of_names(self):
        for rank in (1, 2):
            self.all_refused(SOME, [
                name(9, 5, rank, [0]), name(9, 5, rank, [rank * 5, rank * 5]), name(9, 5, rank, range(1, 14))], -1)

    def test_key_in_use(self):
        self.all_refused(SOME, [name(1, 9, 3, [5]), name(1, 5, 3, [7, 8]), name(3, 9, 3, [5]), name(1, 9, 1, [])], -2)

    def test_candidate_that_is_no_name(self):
        self.all_refused(SOME, [
            name(9, 8, 2, [1, 7]), name(9, 8, 2, [KEY]), name(9, 8, 1, [8]), name(9, 8, 1, [9])], -4)

    def test_candidate_withdrawn(self):
        self.refused(SOME + [withdraw(1, 2)], name(9, 8, 2, [2]), -4)

    def test_candidate_of_a_wrong_rank(self):
        self.all_refused(SOME, [
            name(9, 8, 2, [3]), name(9, 8, 2, [4]), name(9, 8, 1, [1]), name(9, 8, 1, [4]),
            name(9, 8, 2, [1, 3]), name(9, 8, 1, [3, 1])], -5)

    def test_candidate_of_a_later_day(self):
        self.all_refused(SOME, [name(9, 7, 2, [2]), name(9, 7, 2, [1, 2]), name(9, 4, 2, [1]), name(9, 4, 1, [3])], -6)


class TheFirstRefusalIsAnswered(CallCase):
    def test_form_ahead_of_all_others(self):
        full = SOME + many_names(44, first=20)
        self.all_refused(full, [name(1, 0, 2, [30, 30]), name(1, DAY + 1, 2, [7]), name(0, 8, 2, [3])], -1)
        self.all_refused(SOME, [
            name(1, -1, 3, [7]), name(9, 8, 2, [50, 50]), name(0, 8, 2, [50]), name(9, -1, 2, [2]),
            name(KEY + 1, 8, 2, [3]), name(0, 4, 2, [1])], -1)
        self.refused(full, name(0, 5, 3, []), -1)

    def test_key_in_use_ahead_of_what_follows(self):
        self.all_refused(SOME, [name(1, 8, 2, [50]), name(1, 8, 2, [3]), name(1, 4, 2, [1])], -2)
        self.refused(many_names(48), name(48, 5, 3, [7]), -2)

    def test_no_name_ahead_of_what_follows(self):
        self.all_refused(SOME, [
            name(9, 8, 2, [3, 50]), name(9, 8, 2, [50, 3]), name(9, 4, 2, [1, 50]), name(9, 4, 2, [50, 1])], -4)
        self.refused(many_names(48), name(49, 5, 2, [1, 50]), -4)

    def test_wrong_rank_ahead_of_what_follows(self):
        self.all_refused(SOME, [name(9, 4, 2, [1, 3]), name(9, 4, 2, [3, 1]), name(9, 4, 1, [4])], -5)
        self.refused(many_names(48), name(49, 5, 1, [1]), -5)

    def test_later_day_ahead_of_the_full_table(self):
        self.refused(many_names(48), name(49, 4, 2, [1]), -6)

    def test_refused_then_taken(self):
        found = run([name(3, 5, 2, [1]), name(1, 5, 3, []), name(3, 5, 2, [1])])
        self.assertEqual(found, [[-4], [0], [0]])
        self.assertEqual(last(SOME + [name(9, 7, 2, [2]), candidates(9, 8)]), [-4])
