from tests.calls import (
    CallCase, DAY, FAR, KEY, NO_DAYS, NO_KEYS,
    candidates, last, many_choices, name, narrow, sort, withdraw,
)

SOME = [name(1, 5, 3, [7, 8, 9]), name(2, 5, 3, [8]), name(3, 5, 2, [1, 2]), narrow(6, 6, 1, [7, 8])]

BAD_FORM = (
    [narrow(key, 6, 1, [7]) for key in NO_KEYS]
    + [narrow(9, day, 1, [7]) for day in NO_DAYS]
    + [narrow(9, 6, on, [7]) for on in NO_KEYS]
    + [narrow(9, 6, 1, [7, key]) for key in NO_KEYS]
    + [narrow(9, 6, 1, []), narrow(9, 6, 1, [7, 8, 7]), narrow(9, 6, 1, range(1, 14))]
    + [narrow(9, 6, 1, range(1, 161)), narrow(9, 6, 1, [0] * 160), narrow(9, 6, 1, [-FAR] * 160)]
)


class ChoiceIsPutIn(CallCase):
    def test_on_names_of_unlike_ranks(self):
        setup = SOME + [name(4, 5, 2, []), name(5, 5, 1, [3, 4]), narrow(7, 6, 3, [2]), narrow(8, 6, 5, [4])]
        self.answers_of(setup, [
            (candidates(1, 6), [2, 7, 8]), (candidates(3, 6), [1, 2]), (candidates(5, 6), [1, 4])])

    def test_ranges_at_their_ends(self):
        setup = [name(1, 0, 3, [1, KEY]), name(KEY, DAY, 3, [4, 5]), narrow(KEY, 0, 1, [KEY]), narrow(1, DAY, KEY, [5])]
        self.answers_of(setup, [(candidates(1, 0), [1, KEY]), (candidates(KEY, DAY), [1, 5])])

    def test_list_of_twelve_isnt_looked_at(self):
        self.taken(SOME, narrow(9, 6, 1, range(101, 113)))

    def test_day_of_the_name(self):
        self.answers_of(SOME + [narrow(9, 5, 1, [9])], [(candidates(1, 5), [1, 9])])

    def test_key_of_a_name_or_a_sorting_is_free(self):
        self.taken(SOME + [sort(1, 5, [])], narrow(1, 6, 1, [7]))

    def test_key_used_again_after_withdraw(self):
        setup = SOME + [withdraw(2, 6), narrow(6, 7, 1, [9])]
        self.answers_of(setup, [(candidates(1, 6), [3, 7, 8, 9]), (candidates(1, 7), [1, 9])])

    def test_the_96th_and_the_97th(self):
        named = [name(1, 5, 3, [200])]
        self.taken(named + many_choices(95, 1), narrow(96, 5, 1, [7]))
        self.refused(named + many_choices(96, 1), narrow(97, 5, 1, [200]), -9)
        self.taken(named + many_choices(96, 1) + [withdraw(2, 50)], narrow(97, 5, 1, [7]))


class ChoiceIsRefused(CallCase):
    def test_form(self):
        self.all_refused(SOME, BAD_FORM, -1)

    def test_key_in_use(self):
        self.all_refused(SOME, [narrow(6, 6, 1, [9]), narrow(6, 6, 1, [7, 8]), narrow(6, 9, 2, [8])], -2)

    def test_no_name_of_the_key(self):
        self.all_refused(SOME, [narrow(9, 6, 7, [8]), narrow(9, 6, 6, [7]), narrow(9, 6, KEY, [7])], -4)
        self.refused(SOME + [name(4, 0, 3, [7]), withdraw(1, 4)], narrow(9, 6, 4, [7]), -4)

    def test_day_ahead_of_the_names_day(self):
        self.all_refused(SOME, [narrow(9, 4, 1, [7]), narrow(9, 0, 3, [1])], -6)


class TheFirstRefusalIsAnswered(CallCase):
    def test_form_ahead_of_all_others(self):
        full = SOME + many_choices(96, 1)[6:] + [narrow(1000 + more, 5, 1, [7]) for more in range(5)]
        self.all_refused(SOME, [
            narrow(6, 6, 1, []), narrow(6, 6, 0, [7]), narrow(6, -1, 1, [7]), narrow(9, 6, 50, [0]),
            narrow(9, 6, 50, []), narrow(0, 4, 1, [7]), narrow(9, -1, 1, [7])], -1)
        self.refused(full, narrow(900, 6, 1, [7, 7]), -1)
        self.refused(full, narrow(900, 6, 1, [7]), -9)

    def test_key_in_use_ahead_of_what_follows(self):
        self.all_refused(SOME, [narrow(6, 6, 50, [7]), narrow(6, 4, 1, [7])], -2)
        self.refused([name(1, 5, 3, [200])] + many_choices(96, 1), narrow(96, 5, 1, [7]), -2)

    def test_no_name_ahead_of_the_full_table(self):
        self.refused([name(1, 5, 3, [200])] + many_choices(96, 1), narrow(97, 5, 2, [7]), -4)

    def test_early_day_ahead_of_the_full_table(self):
        self.refused([name(1, 5, 3, [200])] + many_choices(96, 1), narrow(97, 4, 1, [7]), -6)

    def test_refused_choice_has_no_effect(self):
        self.assertEqual(last(SOME + [narrow(6, 6, 1, [9]), candidates(1, 9)]), [2, 7, 8])
