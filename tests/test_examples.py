"""The document's examples."""

from tests.calls import CallCase, anchor, apart, choose, name, narrow, reach, same


class Examples(CallCase):
    def test_a_genus_on_two_species(self):
        setup = [name(1, 0, 3, [7, 8]), name(2, 0, 3, [8]), name(3, 0, 2, [1, 2]), narrow(1, 9, 1, [8])]
        told = [(reach(3, 8), [0, 2, 7, 8]), (anchor(3, 8), [2, 3])]
        told += [(anchor(key, day), [1, 8]) for key in (1, 2, 3) for day in (9, 10)]
        told += [(same(a, b, 9), [2]) for a in (1, 2, 3) for b in (1, 2, 3)]
        self.answers_of(setup, told)

    def test_a_family_that_isnt_settled(self):
        setup = [name(1, 0, 3, [7, 8]), name(3, 0, 2, [1]), name(4, 0, 1, [3])]
        self.answers_of(setup, [(anchor(key, 0), [2, 1]) for key in (1, 3, 4)] + [(same(1, 4, 0), [2])])

    def test_one_specimen_for_each_of_several_names(self):
        setup = [name(1, 0, 3, [7, 8]), name(2, 0, 3, [7, 8]), name(5, 0, 3, [7, 8, 9])]
        self.answers_of(setup, [(choose(0, [1, 2, 5]), [7, 8, 9]), (choose(0, [5, 1, 2]), [9, 7, 8])])
        self.answers_of(setup + [name(6, 0, 3, [7, 8])], [(apart(0, [1, 5, 2, 6]), [0, 1, 2, 6])])
