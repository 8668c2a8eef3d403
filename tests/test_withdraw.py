from tests.calls import (
    CallCase, FAR, KEY,
    anchor, candidates, name, narrow, reach, sort, where, withdraw,
)

# Species 1 and 2, genus 3 on 1, family 4 on 3; a choice 2 on species 2; a sorting 1.
SOME = [
    name(1, 5, 3, [7, 8]), name(2, 5, 3, [7, 8]), name(3, 5, 2, [1]), name(4, 5, 1, [3]),
    narrow(2, 6, 2, [7]), sort(1, 5, [7, 20, 8, 20]),
]


class Withdrawn(CallCase):
    def test_a_name(self):
        self.answers_of(SOME + [withdraw(1, 4)], [(candidates(4, 9), [-4]), (candidates(3, 9), [1, 1])])

    def test_a_choice(self):
        self.answers_of(SOME, [(candidates(2, 9), [1, 7])])
        self.answers_of(SOME + [withdraw(2, 2)], [(candidates(2, 9), [2, 7, 8]), (anchor(2, 9), [2, 2])])

    def test_a_sorting(self):
        self.answers_of(SOME + [withdraw(3, 1)], [(where(1, 1, 9), [-3])])

    def test_just_the_one_of_the_table(self):
        setup = [name(1, 5, 3, [7, 8]), narrow(1, 5, 1, [8]), sort(1, 5, [8, 20])]
        self.answers_of(setup + [withdraw(2, 1)], [(where(1, 1, 5), [0, 0, 2, 0, 20])])
        self.answers_of(setup + [withdraw(3, 1)], [(where(1, 1, 5), [-3]), (candidates(1, 5), [1, 8])])

    def test_from_the_family_down(self):
        self.entered(SOME + [withdraw(1, 4), withdraw(1, 3), withdraw(1, 1), withdraw(2, 2), withdraw(1, 2)])

    def test_a_name_whose_number_is_a_specimen_of_another(self):
        setup = [name(7, 5, 3, [1]), name(8, 5, 3, [7, 8])]
        self.answers_of(setup + [withdraw(1, 7)], [(reach(8, 5), [0, 2, 7, 8])])
        self.answers_of(setup + [withdraw(1, 8)], [(reach(7, 5), [0, 1, 1])])

    def test_a_name_whose_number_is_in_the_list_of_a_choice_alone(self):
        setup = [name(1, 5, 3, [7]), name(2, 5, 3, [8]), name(3, 5, 2, [1]), narrow(9, 5, 3, [2])]
        self.taken(setup, withdraw(1, 2))

    def test_a_name_whose_number_is_the_key_of_a_choice_or_a_sorting(self):
        self.taken([name(1, 5, 3, []), name(2, 5, 3, []), narrow(2, 5, 1, [7]), sort(2, 5, [2, 2])], withdraw(1, 2))

    def test_the_key_is_free_again(self):
        self.answers_of(SOME + [withdraw(1, 4), name(4, 0, 3, [9])], [(candidates(4, 0), [1, 9])])
        self.answers_of(SOME + [withdraw(2, 2), narrow(2, 9, 2, [8])], [
            (candidates(2, 8), [2, 7, 8]), (candidates(2, 9), [1, 8])])
        self.answers_of(SOME + [withdraw(3, 1), sort(1, 0, [7, 9])], [(where(1, 1, 9), [0, 0, 2, 0, 9])])


class WithdrawIsRefused(CallCase):
    def test_no_table(self):
        self.all_refused(SOME, [withdraw(table, 4) for table in (0, 4, -1, -FAR, FAR)], -1)

    def test_none_of_the_key(self):
        for table in (1, 2, 3):
            self.all_refused(SOME, [withdraw(table, key) for key in (9, 0, -1, KEY, KEY + 1, -FAR, FAR)], -8)
        self.all_refused(SOME, [withdraw(2, 1), withdraw(2, 4), withdraw(3, 2), withdraw(3, 3)], -8)
        self.refused(SOME + [withdraw(1, 4)], withdraw(1, 4), -8)
        self.refused(SOME + [withdraw(2, 2)], withdraw(2, 2), -8)
        self.refused(SOME + [withdraw(3, 1)], withdraw(3, 1), -8)

    def test_a_first_candidate(self):
        self.all_refused(SOME, [withdraw(1, 1), withdraw(1, 3)], -7)

    def test_a_first_candidate_that_a_choice_has_left_out(self):
        setup = [name(1, 5, 3, []), name(2, 5, 3, []), name(3, 5, 2, [1, 2]), narrow(9, 5, 3, [1])]
        self.refused(setup, withdraw(1, 2), -7)

    def test_a_name_that_a_choice_is_on(self):
        self.refused(SOME, withdraw(1, 2), -7)
        self.refused([name(1, 5, 3, [7]), narrow(9, 5, 1, [100])], withdraw(1, 1), -7)

    def test_a_name_with_both(self):
        self.refused(SOME + [narrow(9, 5, 1, [7])], withdraw(1, 1), -7)


class TheFirstRefusalIsAnswered(CallCase):
    def test_no_table_ahead_of_what_follows(self):
        self.all_refused(SOME, [withdraw(0, 9), withdraw(4, 0), withdraw(0, 1), withdraw(4, 2)], -1)

    def test_none_of_the_key_where_a_name_of_it_is_needed(self):
        self.all_refused(SOME, [withdraw(2, 3), withdraw(3, 2)], -8)
