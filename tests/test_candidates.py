from tests.calls import (
    CallCase, DAY, NO_DAYS, NO_KEYS,
    candidates, name, narrow, sort, withdraw,
)

FIRST = [name(1, 10, 3, [5, 6, 7, 8])]


class Candidates(CallCase):
    def by_day(self, choices, told):
        """Checks the candidates of name 1 at each day told."""
        self.answers_of(FIRST + choices, [(candidates(1, day), [len(keys)] + keys) for day, keys in told])

    def test_a_day_before_at_and_behind(self):
        self.by_day([narrow(1, 20, 1, [7, 6])], [
            (10, [5, 6, 7, 8]), (19, [5, 6, 7, 8]), (20, [6, 7]), (21, [6, 7]), (DAY, [6, 7])])
        self.answers_of(FIRST, [(candidates(1, 9), [-4]), (candidates(1, 10), [4, 5, 6, 7, 8])])

    def test_step_by_step(self):
        self.by_day([narrow(1, 20, 1, [5, 6, 7]), narrow(2, 30, 1, [7, 5]), narrow(3, 40, 1, [5])], [
            (29, [5, 6, 7]), (30, [5, 7]), (39, [5, 7]), (40, [5])])

    def test_order_is_by_day_not_as_they_came(self):
        self.by_day([narrow(1, 40, 1, [5]), narrow(2, 20, 1, [5, 6, 7]), narrow(3, 30, 1, [5, 7])], [
            (20, [5, 6, 7]), (30, [5, 7]), (40, [5])])
        # The one of the earlier day wins though its key is higher and it came later.
        self.by_day([narrow(1, 40, 1, [5]), narrow(2, 20, 1, [6])], [(20, [6]), (40, [6])])

    def test_at_one_day_by_key(self):
        for choices in (
                [narrow(3, 20, 1, [6]), narrow(9, 20, 1, [5])],
                [narrow(9, 20, 1, [5]), narrow(3, 20, 1, [6])]):
            self.by_day(choices, [(19, [5, 6, 7, 8]), (20, [6])])
        self.by_day([narrow(9, 20, 1, [5]), narrow(3, 20, 1, [5, 6])], [(20, [5])])
        self.by_day([narrow(3, 20, 1, [5]), narrow(9, 20, 1, [5, 6])], [(20, [5])])

    def test_key_as_a_number_not_as_a_text(self):
        self.by_day([narrow(10, 20, 1, [5]), narrow(9, 20, 1, [6])], [(20, [6])])

    def test_fate_1(self):
        self.by_day([narrow(1, 20, 1, [5, 9])], [(20, [5, 6, 7, 8])])
        self.by_day([narrow(1, 20, 1, [9])], [(20, [5, 6, 7, 8])])
        self.by_day([narrow(1, 20, 1, [5, 6, 7, 8, 9])], [(20, [5, 6, 7, 8])])
        # A first candidate that an earlier choice has left out doesn't come back.
        self.by_day([narrow(1, 20, 1, [5, 6]), narrow(2, 30, 1, [6, 7]), narrow(3, 40, 1, [6])], [
            (30, [5, 6]), (40, [6])])

    def test_fate_2(self):
        self.by_day([narrow(1, 20, 1, [8, 7, 6, 5]), narrow(2, 30, 1, [5])], [(20, [5, 6, 7, 8]), (30, [5])])
        self.by_day([narrow(1, 20, 1, [5, 6]), narrow(2, 30, 1, [6, 5]), narrow(3, 40, 1, [6])], [
            (30, [5, 6]), (40, [6])])

    def test_fates_among_those_in_force(self):
        self.by_day(
            [narrow(4, 30, 1, [9, 5]), narrow(5, 30, 1, [5, 6]), narrow(6, 30, 1, [6, 5]),
             narrow(1, 40, 1, [7]), narrow(2, 40, 1, [6]), narrow(3, 40, 1, [5])],
            [(29, [5, 6, 7, 8]), (30, [5, 6]), (40, [6])])

    def test_a_choice_withdrawn(self):
        choices = [narrow(1, 20, 1, [5, 6]), narrow(2, 30, 1, [7]), narrow(3, 40, 1, [6])]
        self.by_day(choices, [(20, [5, 6]), (30, [5, 6]), (40, [6])])
        # Without the first the second is in force, and the third no more.
        self.by_day(choices + [withdraw(2, 1)], [(20, [5, 6, 7, 8]), (30, [7]), (40, [7])])
        self.by_day(choices + [withdraw(2, 3)], [(40, [5, 6])])
        self.by_day(choices + [withdraw(2, 1), narrow(1, 20, 1, [5, 6])], [(30, [5, 6]), (40, [6])])
        self.by_day(choices + [withdraw(2, 1), narrow(1, 35, 1, [5, 6])], [(30, [7]), (40, [7])])

    def test_choices_on_other_names(self):
        setup = FIRST + [
            name(2, 10, 3, [5, 6, 7, 8]), narrow(1, 20, 2, [5, 6]), narrow(2, 20, 1, [7]), narrow(3, 21, 2, [6])]
        self.answers_of(setup, [
            (candidates(1, 21), [1, 7]), (candidates(2, 20), [2, 5, 6]), (candidates(2, 21), [1, 6])])

    def test_a_name_without_candidates_keeps_none(self):
        self.answers_of([name(1, 0, 3, []), narrow(1, 0, 1, [5])], [(candidates(1, 0), [0])])

    def test_one_candidate_stays(self):
        self.answers_of([name(1, 0, 3, [5]), narrow(1, 0, 1, [5]), narrow(2, 0, 1, [6])], [(candidates(1, 0), [1, 5])])

    def test_candidates_that_are_names(self):
        setup = FIRST + [name(2, 10, 3, []), name(3, 12, 2, [2, 1]), narrow(1, 15, 3, [2]), narrow(2, 11, 1, [5])]
        self.answers_of(setup, [
            (candidates(3, 12), [2, 1, 2]), (candidates(3, 15), [1, 2]), (candidates(1, 11), [1, 5])])

    def test_ascending(self):
        setup = [name(1, 0, 3, [100, 20, 3, 1000]), narrow(1, 1, 1, [1000, 20, 100])]
        self.answers_of(setup, [(candidates(1, 0), [4, 3, 20, 100, 1000]), (candidates(1, 1), [3, 20, 100, 1000])])

    def test_asking_changes_nothing(self):
        asked = (candidates(1, 20), [2, 6, 7])
        self.answers_of(FIRST + [narrow(1, 20, 1, [7, 6])], [asked, (candidates(1, 19), [4, 5, 6, 7, 8]), asked, asked])


class CandidatesIsRefused(CallCase):
    def test_day_that_is_none(self):
        self.all_refused(FIRST, [candidates(1, day) for day in NO_DAYS], -1)

    def test_name_that_isnt_there(self):
        told = [candidates(1, 9), candidates(1, 0), candidates(2, 20)] + [candidates(key, 20) for key in NO_KEYS]
        self.all_refused(FIRST + [narrow(2, 10, 1, [5]), sort(2, 0, [])], told, -4)
        self.refused(FIRST + [withdraw(1, 1)], candidates(1, 20), -4)

    def test_day_ahead_of_the_name(self):
        self.all_refused(FIRST, [candidates(key, day) for key in (2, 0) for day in NO_DAYS], -1)
