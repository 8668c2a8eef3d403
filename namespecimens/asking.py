"""The calls that ask: each gives back the numbers answered and changes nothing."""

from namespecimens.book import is_there
from namespecimens.bounds import is_day
from namespecimens.chains import anchors_by_day, candidates_by_day, ends_in_nothing, specimens_reached
from namespecimens.groups import groups_touched


def day_refusal(day):
    return 0 if is_day(day) else -1


def name_refusal(book, name, day):
    return 0 if is_there(book.names, name, day) else -4


def sorting_refusal(book, sorting, day):
    return 0 if is_there(book.sortings, sorting, day) else -3


def first_refusal(refusals):
    """The first of them that is one, else 0."""
    for refusal in refusals:
        if refusal < 0:
            return refusal
    return 0


def counted(numbers):
    return [len(numbers)] + numbers


def ask_candidates(book, name, day):
    refusal = first_refusal([day_refusal(day), name_refusal(book, name, day)])
    if refusal < 0:
        return [refusal]
    return counted(sorted(candidates_by_day(book, day)[name]))


def ask_reach(book, name, day):
    refusal = first_refusal([day_refusal(day), name_refusal(book, name, day)])
    if refusal < 0:
        return [refusal]
    candidates = candidates_by_day(book, day)
    nothing = 1 if ends_in_nothing(book, candidates, name) else 0
    return [nothing] + counted(specimens_reached(book, candidates, name))


def ask_anchor(book, name, day):
    refusal = first_refusal([day_refusal(day), name_refusal(book, name, day)])
    if refusal < 0:
        return [refusal]
    return list(anchors_by_day(book, candidates_by_day(book, day))[name])


def likeness(book, candidates, name, other):
    """What same answers of two names that have candidates told."""
    anchors = anchors_by_day(book, candidates)
    if anchors[name] == anchors[other] and anchors[name] != (0, 0):
        return 2
    reached = specimens_reached(book, candidates, other)
    if any([specimen in reached for specimen in specimens_reached(book, candidates, name)]):
        return 1
    return 0


def ask_same(book, name, other, day):
    refusal = first_refusal([day_refusal(day), name_refusal(book, name, day), name_refusal(book, other, day)])
    if refusal < 0:
        return [refusal]
    return [likeness(book, candidates_by_day(book, day), name, other)]


def place_in(book, candidates, name, groups):
    """What where answers of a name that has candidates told, in these groups."""
    nothing = 1 if ends_in_nothing(book, candidates, name) else 0
    touched = groups_touched(groups, specimens_reached(book, candidates, name))
    # Where the one group is 0, nowhere, this answers 0 too: it falls in none.
    falls = touched[0] if nothing == 0 and len(touched) == 1 else 0
    return [falls, nothing] + counted(touched)


def ask_where(book, name, sorting, day):
    refusal = first_refusal([day_refusal(day), name_refusal(book, name, day), sorting_refusal(book, sorting, day)])
    if refusal < 0:
        return [refusal]
    return place_in(book, candidates_by_day(book, day), name, book.sortings[sorting].groups)
