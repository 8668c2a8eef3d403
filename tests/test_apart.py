import itertools
import random

from tests.calls import (
    CallCase, DAY, FAR, KEY, NO_DAYS, NO_KEYS,
    apart, candidates, choose, many_names, name, narrow, run, sort, withdraw,
)

# Species 1 to 6, genus 11, family 21; species 8 is of day 9; a sorting and a choice 7.
SOME = [
    name(1, 5, 3, [70, 80]), name(2, 5, 3, [80]), name(3, 5, 3, [80, 70]), name(4, 5, 3, []), name(5, 5, 3, [60, 70]),
    name(6, 5, 3, [90]), name(8, 9, 3, [50]), name(11, 5, 2, [1, 2]), name(21, 5, 1, [11]),
    sort(7, 5, []), narrow(7, 5, 6, [90]),
]

BOTH = (apart, choose)


def species(lists):
    """A name of rank 3 for each of the lists, with the keys 1, 2, 3 and so on."""
    return [name(place + 1, 0, 3, keys) for place, keys in enumerate(lists)]


def first_wanting(lists):
    """The places of the first wanting set, by trying all sets in their order."""
    for size in range(1, len(lists) + 1):
        for places in itertools.combinations(range(len(lists)), size):
            if len(set().union(*[lists[place] for place in places])) < size:
                return places
    return None


def can_be_served(lists):
    """Whether there is a row of unlike specimens, by handing those given out on along chains."""
    holder = {}

    def serve(place, seen):
        for specimen in lists[place]:
            if specimen not in seen:
                seen.add(specimen)
                if specimen not in holder or serve(holder[specimen], seen):
                    holder[specimen] = place
                    return True
        return False

    return all(serve(place, set()) for place in range(len(lists)))


def least_row(lists):
    row = []
    for place, keys in enumerate(lists):
        for specimen in sorted(keys):
            given = row + [specimen]
            later = [[x for x in more if x not in given] for more in lists[place + 1:]]
            if specimen not in row and can_be_served(later):
                row = given
                break
        else:
            return None
    return row


class AgainstOtherWays(CallCase):
    def check(self, lists, order):
        """Checks apart and choose for the names of these lists, told in this order of places."""
        told = [lists[place] for place in order]
        keys = [place + 1 for place in order]
        wanting = first_wanting(told)
        row = least_row(told)
        self.assertEqual(wanting is None, row is not None)
        if wanting is None:
            self.answers_of(species(lists), [(apart(0, keys), [1]), (choose(0, keys), row)])
        else:
            answer = [0] + [keys[place] for place in wanting]
            self.answers_of(species(lists), [(apart(0, keys), answer), (choose(0, keys), [-7])])
        return row

    def test_all_small_lists(self):
        for lists in itertools.product([[], [1], [2], [2, 1], [3, 1], [1, 2, 3]], repeat=3):
            row = self.check(lists, (0, 1, 2))
            rows = [list(each) for each in itertools.product(*lists) if len(set(each)) == 3]
            self.assertEqual(row, min(rows, default=None))

    def test_mixed_lists(self):
        drawn = random.Random(5)
        met = set()
        for each in range(600):
            count = drawn.randint(1, 10)
            most = drawn.randint(1, 14)
            lists = [drawn.sample(range(1, most + 1), drawn.randint(0, min(most, 12))) for name_of in range(count)]
            if each % 3:
                # Lists without any candidate hide the wanting sets of several names.
                lists = [keys or [drawn.randint(1, most)] for keys in lists]
            row = self.check(lists, drawn.sample(range(count), count))
            met.add((count, row is None))
        self.assertEqual(len(met), 20)

    def test_few_specimens_for_ten_names(self):
        drawn = random.Random(6)
        served = 0
        for each in range(200):
            lists = [drawn.sample(range(1, 12), drawn.choice((2, 3, 4, 9, 10))) for name_of in range(10)]
            row = self.check(lists, drawn.sample(range(10), 10))
            served += row is not None and row != [min(keys) for keys in lists]
        self.assertGreater(served, 50)


class Apart(CallCase):
    def test_no_set_is_wanting(self):
        self.answers_of(SOME, [
            (apart(5, [1]), [1]), (apart(5, [2]), [1]), (apart(5, [1, 2]), [1]), (apart(5, [6, 5, 2, 1]), [1]),
            (apart(5, [1, 5, 3]), [1]), (apart(9, [8, 6, 5, 3, 2]), [1])])

    def test_a_name_without_candidates(self):
        self.answers_of(SOME, [
            (apart(5, [4]), [0, 4]), (apart(5, [1, 4, 2]), [0, 4]), (apart(5, [1, 2, 3, 4]), [0, 4])])

    def test_the_earlier_of_two_without_candidates(self):
        setup = SOME + [name(9, 5, 3, [])]
        self.answers_of(setup, [
            (apart(5, [4, 9]), [0, 4]), (apart(5, [9, 4]), [0, 9]), (apart(5, [1, 9, 2, 4]), [0, 9])])

    def test_in_the_order_of_the_list(self):
        self.answers_of(SOME, [
            (apart(5, [1, 2, 3]), [0, 1, 2, 3]), (apart(5, [3, 2, 1]), [0, 3, 2, 1]),
            (apart(5, [2, 6, 3, 5, 1]), [0, 2, 3, 1])])

    def test_fewest_names_first(self):
        # Of the names 1 to 5 three share 7 and 8; two share 9, and stand behind.
        setup = species([[7, 8], [7, 8], [8, 7], [9], [9]])
        self.answers_of(setup, [
            (apart(0, [1, 2, 3, 4, 5]), [0, 4, 5]), (apart(0, [1, 2, 3, 4]), [0, 1, 2, 3]),
            (apart(0, [5, 1, 2, 4]), [0, 5, 4])])

    def test_of_as_many_by_the_first_place_that_differs(self):
        setup = species([[7], [8], [7], [8], [7]])
        self.answers_of(setup, [
            (apart(0, [1, 2, 3, 4, 5]), [0, 1, 3]), (apart(0, [5, 4, 3, 2, 1]), [0, 5, 3]),
            (apart(0, [2, 1, 5, 4, 3]), [0, 2, 4]), (apart(0, [4, 3, 1, 2]), [0, 4, 2]),
            (apart(0, [3, 2, 4, 1]), [0, 3, 1]), (apart(0, [1, 5, 3]), [0, 1, 5])])

    def test_a_set_whose_names_are_no_neighbours(self):
        setup = species([[7, 8], [20, 21], [7, 8], [30], [8, 7]])
        self.answers_of(setup, [(apart(0, [1, 2, 3, 4, 5]), [0, 1, 3, 5])])

    def test_ten_names_that_want_together(self):
        nine = list(range(1, 10))
        setup = species([nine] * 10)
        self.answers_of(setup, [
            (apart(0, range(1, 11)), [0] + list(range(1, 11))),
            (apart(0, range(10, 0, -1)), [0] + list(range(10, 0, -1))),
            (apart(0, range(1, 10)), [1])])

    def test_choices_from_their_days_on(self):
        setup = SOME + [narrow(1, 6, 1, [80]), narrow(2, 8, 5, [70, 60])]
        self.answers_of(setup, [(apart(5, [1, 2]), [1]), (apart(6, [1, 2]), [0, 1, 2]), (apart(DAY, [5, 1]), [1])])

    def test_ranges_at_their_ends(self):
        setup = [name(KEY, DAY, 3, [KEY]), name(1, 0, 3, [KEY])]
        self.answers_of(setup, [(apart(0, [1]), [1]), (apart(DAY, [KEY, 1]), [0, KEY, 1])])


class Choose(CallCase):
    def test_one_candidate_of_each(self):
        self.answers_of(SOME, [
            (choose(5, [1]), [70]), (choose(5, [1, 2]), [70, 80]), (choose(5, [3, 1]), [70, 80]),
            (choose(5, [5, 3]), [60, 70]), (choose(5, [6, 5, 2, 1]), [90, 60, 80, 70]), (choose(9, [8]), [50])])

    def test_not_the_least_candidate(self):
        self.answers_of(species([[1, 2], [1]]), [(choose(0, [1, 2]), [2, 1]), (choose(0, [2, 1]), [1, 2])])
        self.answers_of(species([[1, 2, 3], [1, 2], [2, 1]]), [
            (choose(0, [1, 2, 3]), [3, 1, 2]), (choose(0, [2, 1, 3]), [1, 3, 2]), (choose(0, [3, 2, 1]), [1, 2, 3])])

    def test_a_chain_that_leaves_one_row_alone(self):
        lists = [list(range(1, count + 1)) for count in range(10, 0, -1)]
        self.answers_of(species(lists), [
            (choose(0, range(1, 11)), list(range(10, 0, -1))), (choose(0, range(10, 0, -1)), list(range(1, 11)))])

    def test_a_ring_of_ten(self):
        # The first may take either of its two; all others follow from that.
        lists = [[place, place % 10 + 1] for place in range(1, 11)]
        self.answers_of(species(lists), [(choose(0, range(1, 11)), list(range(1, 11)))])
        lists[0] = [2]
        self.answers_of(species(lists), [(choose(0, range(1, 11)), list(range(2, 11)) + [1])])

    def test_ten_names_with_the_same_twelve(self):
        twelve = [30, 7, 19, 2, 23, 5, 11, 3, 29, 13, 17, 1]
        setup = species([twelve] * 10)
        wanted = sorted(twelve)[:10]
        self.answers_of(setup, [(choose(0, range(1, 11)), wanted), (choose(0, range(10, 0, -1)), wanted)])

    def test_nine_wide_names_ahead_of_a_narrow_one(self):
        ten = list(range(1, 11))
        self.answers_of(species([ten] * 9 + [[1]]), [(choose(0, range(1, 11)), list(range(2, 11)) + [1])])
        setup = species([ten + [11, 12]] * 5 + [ten[:5]] * 5)
        self.answers_of(setup, [(choose(0, range(1, 11)), [6, 7, 8, 9, 10, 1, 2, 3, 4, 5])])

    def test_choices_from_their_days_on(self):
        setup = species([[1, 2, 3], [1, 2]]) + [narrow(1, 4, 2, [1]), narrow(2, 8, 1, [3, 2]), narrow(3, 9, 1, [3])]
        self.answers_of(setup, [
            (choose(3, [1, 2]), [1, 2]), (choose(4, [1, 2]), [2, 1]), (choose(8, [1, 2]), [2, 1]),
            (choose(9, [1, 2]), [3, 1])])

    def test_as_numbers_not_as_texts(self):
        self.answers_of(species([[10, 9, 100]]), [(choose(0, [1]), [9])])

    def test_where_apart_answers_0(self):
        for keys in ([4], [1, 4], [1, 2, 3], [3, 5, 2, 1, 4]):
            self.refused(SOME, choose(5, keys), -7)
        for keys in ([1, 2], [5, 3, 2], [1, 2, 5, 6]):
            self.answers_of(SOME, [(apart(5, keys), [1])])
            self.assertEqual(len(run(SOME + [choose(5, keys)])[-1]), len(keys))

    def test_ranges_at_their_ends(self):
        setup = [name(KEY, DAY, 3, [KEY]), name(1, 0, 3, [KEY, 1])]
        self.answers_of(setup, [(choose(0, [1]), [1]), (choose(DAY, [KEY, 1]), [KEY, 1])])

    def test_asking_changes_nothing(self):
        asked = [
            (choose(5, [5, 3]), [60, 70]), (apart(5, [1, 2, 3]), [0, 1, 2, 3]), (candidates(3, 5), [2, 70, 80]),
            (candidates(5, 5), [2, 60, 70])]
        self.answers_of(SOME, asked + asked)


class TheListIsRefused(CallCase):
    def test_day_that_is_none(self):
        for ask in BOTH:
            self.all_refused(SOME, [ask(day, keys) for day in NO_DAYS for keys in ([1, 2], [], [99], [11], [4])], -1)

    def test_form(self):
        for ask in BOTH:
            self.all_refused(SOME, [ask(5, []), ask(5, [1, 1]), ask(5, [1, 2, 6, 1])], -1)
            self.all_refused(SOME, [ask(5, [key]) for key in NO_KEYS] + [ask(5, [1, key]) for key in NO_KEYS], -1)
            self.all_refused(SOME, [ask(5, range(1, 161)), ask(5, [1] * 160), ask(5, [-FAR] * 160)], -1)

    def test_ten_and_eleven(self):
        setup = many_names(11)
        for ask, wanted in ((apart, [1]), (choose, list(range(1, 11)))):
            self.answers_of(setup, [(ask(5, range(1, 11)), wanted)])
            self.all_refused(setup, [ask(5, range(1, 12)), ask(5, range(11, 0, -1))], -1)
            self.refused(setup, ask(5, list(range(1, 11)) + [1]), -1)

    def test_form_ahead_of_what_follows(self):
        for ask in BOTH:
            self.all_refused(SOME, [
                ask(5, [99, 99]), ask(5, [99, 0]), ask(5, [11, 11]), ask(5, [11, 0]), ask(5, [4, 4]), ask(5, [4, 0]),
                ask(5, range(101, 112)), ask(-1, [1])], -1)

    def test_name_that_isnt_there(self):
        for ask in BOTH:
            self.all_refused(SOME, [ask(5, [99]), ask(5, [1, 99]), ask(5, [7]), ask(5, [1, 8]), ask(4, [1])], -4)
            self.all_refused(SOME, [ask(5, [KEY]), ask(8, [8]), ask(5, range(101, 111))], -4)
            self.refused(SOME + [withdraw(1, 5)], ask(5, [1, 5]), -4)
            # Ahead of a name of another rank and of a wanting set, wherever they stand in the list.
            self.all_refused(SOME, [ask(5, [11, 99]), ask(5, [99, 11]), ask(5, [4, 99]), ask(5, [21, 4, 8])], -4)

    def test_name_of_another_rank(self):
        for ask in BOTH:
            self.all_refused(SOME, [ask(5, [11]), ask(5, [21]), ask(5, [1, 11]), ask(5, [21, 11, 1])], -5)
            # Ahead of a wanting set.
            self.all_refused(SOME, [ask(5, [4, 11]), ask(5, [1, 2, 3, 21])], -5)
