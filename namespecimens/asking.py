"""The calls that ask: each gives back the numbers answered and changes nothing."""

from namespecimens.book import is_there
from namespecimens.bounds import MOST_TO_CHOOSE, SPECIES, is_day, is_key, is_key_list, is_rank
from namespecimens.chains import anchors_by_day, candidates_by_day, ends_in_nothing, fate_of, names_on_chains
from namespecimens.chains import specimens_reached
from namespecimens.choosing import first_wanting, least_row
from namespecimens.groups import blocks_in_order, first_pair_parted, groups_touched, pair_counts


def day_refusal(day):
    return 0 if is_day(day) else -1


def name_refusal(book, name, day):
    return 0 if is_there(book.names, name, day) else -4


def sorting_refusal(book, sorting, day):
    return 0 if is_there(book.sortings, sorting, day) else -3


def first_refusal(refusals):
    """The first of them that is one, else 0."""
    for refusal in refusals:
        if refusal < 0:
            return refusal
    return 0


def counted(numbers):
    return [len(numbers)] + numbers


def ask_candidates(book, name, day):
    refusal = first_refusal([day_refusal(day), name_refusal(book, name, day)])
    if refusal < 0:
        return [refusal]
    return counted(sorted(candidates_by_day(book, day)[name]))


def ask_reach(book, name, day):
    refusal = first_refusal([day_refusal(day), name_refusal(book, name, day)])
    if refusal < 0:
        return [refusal]
    candidates = candidates_by_day(book, day)
    nothing = 1 if ends_in_nothing(book, candidates, name) else 0
    return [nothing] + counted(specimens_reached(book, candidates, name))


def ask_anchor(book, name, day):
    refusal = first_refusal([day_refusal(day), name_refusal(book, name, day)])
    if refusal < 0:
        return [refusal]
    return list(anchors_by_day(book, candidates_by_day(book, day))[name])


def likeness(book, candidates, anchors, name, other):
    """What same answers of two names that have candidates and anchors told."""
    if anchors[name] == anchors[other] and anchors[name] != (0, 0):
        return 2
    reached = specimens_reached(book, candidates, name)
    if len(set(reached) & set(specimens_reached(book, candidates, other))) > 0:
        return 1
    return 0


def ask_same(book, name, other, day):
    refusal = first_refusal([day_refusal(day), name_refusal(book, name, day), name_refusal(book, other, day)])
    if refusal < 0:
        return [refusal]
    candidates = candidates_by_day(book, day)
    return [likeness(book, candidates, anchors_by_day(book, candidates), name, other)]


def place_in(book, candidates, name, groups):
    """What where answers of a name that has candidates told, in these groups."""
    nothing = 1 if ends_in_nothing(book, candidates, name) else 0
    touched = groups_touched(groups, specimens_reached(book, candidates, name))
    # Where the one group is 0, nowhere, this answers 0 too: it falls in none.
    falls = touched[0] if nothing == 0 and len(touched) == 1 else 0
    return [falls, nothing] + counted(touched)


def ask_where(book, name, sorting, day):
    refusal = first_refusal([day_refusal(day), name_refusal(book, name, day), sorting_refusal(book, sorting, day)])
    if refusal < 0:
        return [refusal]
    return place_in(book, candidates_by_day(book, day), name, book.sortings[sorting].groups)


def ask_whatif(book, name, sorting, other, x, day):
    refusal = first_refusal([
        day_refusal(day), name_refusal(book, name, day), sorting_refusal(book, sorting, day),
        name_refusal(book, other, day)])
    if refusal < 0:
        return [refusal]
    candidates = candidates_by_day(book, day)
    if x not in candidates[other]:
        return [-5]
    # The dict is this call's own: what is put into it here, the tables don't learn.
    candidates[other] = [x]
    return place_in(book, candidates, name, book.sortings[sorting].groups)


def names_of_rank(book, candidates, rank):
    """The keys, ascending, of the names of the rank that have candidates told."""
    return [key for key in sorted(candidates) if book.names[key].rank == rank]


def ask_members(book, sorting, group, rank, day):
    if not (is_day(day) and is_key(group) and is_rank(rank)):
        return [-1]
    if sorting_refusal(book, sorting, day) < 0:
        return [-3]
    candidates = candidates_by_day(book, day)
    falling = []
    touching = []
    for key in names_of_rank(book, candidates, rank):
        place = place_in(book, candidates, key, book.sortings[sorting].groups)
        if place[0] == group:
            falling.append(key)
        elif group in place[3:]:
            touching.append(key)
    return counted(falling) + counted(touching)


def ask_synonyms(book, name, sorting, day):
    refusal = first_refusal([day_refusal(day), name_refusal(book, name, day), sorting_refusal(book, sorting, day)])
    if refusal < 0:
        return [refusal]
    candidates = candidates_by_day(book, day)
    groups = book.sortings[sorting].groups
    group = place_in(book, candidates, name, groups)[0]
    if group == 0:
        return [-5]
    anchors = anchors_by_day(book, candidates)
    found = []
    for other in names_of_rank(book, candidates, book.names[name].rank):
        if other != name and place_in(book, candidates, other, groups)[0] == group:
            found.extend([other, likeness(book, candidates, anchors, name, other)])
    return [group, len(found) // 2] + found


def ask_fate(book, choice, day):
    if not is_day(day):
        return [-1]
    if not is_there(book.choices, choice, day):
        return [-8]
    return [fate_of(book, choice)]


def ask_through(book, name, day):
    refusal = first_refusal([day_refusal(day), name_refusal(book, name, day)])
    if refusal < 0:
        return [refusal]
    candidates = candidates_by_day(book, day)
    return counted([key for key in sorted(candidates) if name in names_on_chains(book, candidates, key)])


def species_refusal(book, day, keys):
    """The refusal of a list of species's names to choose for, else 0."""
    if not is_day(day) or len(keys) == 0 or not is_key_list(keys, MOST_TO_CHOOSE):
        return -1
    if not all([is_there(book.names, key, day) for key in keys]):
        return -4
    if not all([book.names[key].rank == SPECIES for key in keys]):
        return -5
    return 0


def candidates_in_row(book, day, keys):
    """The candidates by the day of each name of the list, in the order of the list."""
    candidates = candidates_by_day(book, day)
    return [candidates[key] for key in keys]


def ask_apart(book, day, keys):
    refusal = species_refusal(book, day, keys)
    if refusal < 0:
        return [refusal]
    wanting = first_wanting(candidates_in_row(book, day, keys))
    if len(wanting) == 0:
        return [1]
    return [0] + [keys[place] for place in wanting]


def ask_choose(book, day, keys):
    refusal = species_refusal(book, day, keys)
    if refusal < 0:
        return [refusal]
    candidates = candidates_in_row(book, day, keys)
    if len(first_wanting(candidates)) > 0:
        return [-7]
    return least_row(candidates)


def ask_blocks(book, sorting, day):
    refusal = first_refusal([day_refusal(day), sorting_refusal(book, sorting, day)])
    if refusal < 0:
        return [refusal]
    blocks = blocks_in_order(book.sortings[sorting].groups)
    told = [len(blocks)]
    for group in blocks:
        told.append(group)
        told.extend(counted(blocks[group]))
    return told


def two_asked_refusal(book, a, b, day):
    """The refusal of two sortings that a call tells, else 0."""
    return first_refusal([day_refusal(day), sorting_refusal(book, a, day), sorting_refusal(book, b, day)])


def ask_finer(book, a, b, day):
    refusal = two_asked_refusal(book, a, b, day)
    if refusal < 0:
        return [refusal]
    parted = first_pair_parted(book.sortings[a].groups, book.sortings[b].groups)
    return [0] + parted if parted else [1]


def ask_pairs(book, a, b, day):
    refusal = two_asked_refusal(book, a, b, day)
    if refusal < 0:
        return [refusal]
    return pair_counts(book.sortings[a].groups, book.sortings[b].groups)
