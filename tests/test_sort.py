from tests.calls import (
    CallCase, DAY, FAR, KEY, NO_DAYS, NO_KEYS,
    groups_of, many_sortings, name, narrow, sort, where, withdraw,
)

SOME = [name(1, 5, 3, [7, 8]), sort(4, 5, [7, 20, 8, 20, 9, 30])]


def alike(count, first=1):
    """So many specimens and the group 6 for each."""
    keys = []
    for specimen in range(first, first + count):
        keys += [specimen, 6]
    return keys


BAD_FORM = (
    [sort(key, 5, [7, 20]) for key in NO_KEYS]
    + [sort(9, day, [7, 20]) for day in NO_DAYS]
    + [sort(9, 5, [7, 20, key, 20]) for key in NO_KEYS]
    + [sort(9, 5, [7, 20, 8, key]) for key in NO_KEYS]
    + [sort(9, 5, [7]), sort(9, 5, [7, 20, 8]), sort(9, 5, alike(64)[:127]), sort(9, 5, alike(64) + [70])]
    + [sort(9, 5, [7, 20, 7, 20]), sort(9, 5, [7, 20, 8, 20, 7, 30])]
    + [sort(9, 5, alike(65)), sort(9, 5, alike(80)), sort(9, 5, [0] * 160), sort(9, 5, [FAR] * 159)]
)


class SortingIsPutIn(CallCase):
    def test_each_specimen_in_its_group(self):
        self.assertEqual(groups_of(SOME, 4, [7, 8, 9, 10]), {7: 20, 8: 20, 9: 30, 10: 0})

    def test_a_group_may_have_the_number_of_a_specimen(self):
        setup = [sort(4, 5, [7, 8, 8, 7, 9, 9])]
        self.assertEqual(groups_of(setup, 4, [7, 8, 9]), {7: 8, 8: 7, 9: 9})

    def test_ranges_at_their_ends(self):
        setup = [sort(1, 0, [1, KEY, KEY, 1]), sort(KEY, DAY, [KEY, KEY])]
        self.entered(setup)
        self.assertEqual(groups_of(setup, 1, [1, KEY]), {1: KEY, KEY: 1})
        self.assertEqual(groups_of(setup, KEY, [1, KEY]), {1: 0, KEY: KEY})

    def test_empty_list(self):
        setup = SOME + [sort(9, 5, [])]
        self.answers_of(setup, [(where(1, 9, 5), [0, 0, 1, 0])])

    def test_sixty_four_specimens(self):
        setup = [sort(9, 5, alike(64))]
        self.taken([], setup[0])
        self.assertEqual(groups_of(setup, 9, range(1, 66)), dict([(x, 6) for x in range(1, 65)] + [(65, 0)]))

    def test_key_of_a_name_or_a_choice_is_free(self):
        self.taken(SOME + [narrow(1, 5, 1, [7])], sort(1, 5, [7, 20]))

    def test_key_used_again_after_withdraw(self):
        setup = SOME + [withdraw(3, 4), sort(4, 9, [7, 40])]
        self.answers_of(setup, [(where(1, 4, 8), [-3]), (where(1, 4, 9), [0, 0, 2, 0, 40])])

    def test_the_12th_and_the_13th(self):
        self.taken(many_sortings(11), sort(12, 5, [1, 2]))
        self.refused(many_sortings(12), sort(13, 5, [1, 2]), -9)
        self.refused(many_sortings(12), sort(13, 5, []), -9)
        self.taken(many_sortings(12) + [withdraw(3, 7)], sort(13, 5, [1, 2]))


class SortingIsRefused(CallCase):
    def test_form(self):
        self.all_refused(SOME, BAD_FORM, -1)

    def test_key_in_use(self):
        self.all_refused(SOME, [sort(4, 5, [7, 50]), sort(4, 9, []), sort(4, 0, [7, 20, 8, 20, 9, 30])], -2)


class TheFirstRefusalIsAnswered(CallCase):
    def test_form_ahead_of_all_others(self):
        self.all_refused(SOME, [sort(4, 5, [7]), sort(4, -1, []), sort(4, 5, [7, 0])], -1)
        self.all_refused(many_sortings(12), [
            sort(13, 5, [1]), sort(12, 5, [1, 2, 1, 2]), sort(0, 5, []),
            sort(13, DAY + 1, []), sort(13, 5, alike(65))], -1)

    def test_key_in_use_ahead_of_the_full_table(self):
        self.refused(many_sortings(12), sort(12, 5, [1, 2]), -2)
