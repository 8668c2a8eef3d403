"""One specimen for each of several names, none twice: whether that can be, and the least such row.

What is handed in is a row of lists: for each place of the row the candidates there, which are specimens.
"""


def widened(sets, candidates):
    """The sets with one place more, which stands behind their own: in the order of the places again."""
    wider = {}
    for places in sets:
        for place in range(places[-1] + 1 if places else 0, len(candidates)):
            specimens = sorted(set(sets[places]) | set(candidates[place]))
            # With more specimens than there are places no wider set can run short of them.
            if len(specimens) <= len(candidates):
                wider[places + (place,)] = specimens
    return wider


def sets_that_may_want(candidates):
    """The specimens of each set of places, but for those that have more than there are places.

    The sets of fewer places come first, those of as many in the order of their places.
    """
    found = {}
    sets = widened({(): []}, candidates)
    while sets:
        found.update(sets)
        sets = widened(sets, candidates)
    return found


def first_wanting(candidates):
    """The places of the first set that has fewer specimens than places, none if no set has."""
    sets = sets_that_may_want(candidates)
    for places in sets:
        if len(sets[places]) < len(places):
            return places
    return ()


def specimens_needed(candidates):
    """The specimens none of which may be taken away from these places, as a dict of True.

    Where no set is wanting, a row can be found (Hall's theorem). One specimen less makes a set wanting
    just if it's one of the set's and the set has no more specimens than places.
    """
    needed = {}
    sets = sets_that_may_want(candidates)
    for places in sets:
        if len(sets[places]) == len(places):
            for specimen in sets[places]:
                needed[specimen] = True
    return needed


def least_row(candidates):
    """The least row of unlike specimens, one of each place's candidates, where no set is wanting."""
    row = []
    for place in range(len(candidates)):
        later = []
        for others in candidates[place + 1:]:
            later.append([specimen for specimen in others if specimen not in row])
        needed = specimens_needed(later)
        row.append(min([each for each in candidates[place] if each not in row and each not in needed]))
    return row
