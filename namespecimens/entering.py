"""The calls that enter: each gives back 0, or a refusal below 0 with nothing changed."""

from namespecimens.book import Choice, Name, Sorting
from namespecimens.bounds import MOST_CHOICES, MOST_IN_LIST, MOST_NAMES, MOST_SORTINGS, MOST_SPECIMENS, SPECIES
from namespecimens.bounds import are_keys, is_day, is_key, is_key_list, is_rank
from namespecimens.groups import joined_groups, met_groups


def candidates_refusal(book, day, rank, keys):
    """The refusal of first candidates that are to be names, else 0."""
    if not all([key in book.names for key in keys]):
        return -4
    if not all([book.names[key].rank == rank + 1 for key in keys]):
        return -5
    if not all([book.names[key].day <= day for key in keys]):
        return -6
    return 0


def enter_name(book, key, day, rank, keys):
    if not (is_key(key) and is_day(day) and is_rank(rank) and is_key_list(keys, MOST_IN_LIST)):
        return -1
    if key in book.names:
        return -2
    if rank != SPECIES:
        refusal = candidates_refusal(book, day, rank, keys)
        if refusal < 0:
            return refusal
    if len(book.names) >= MOST_NAMES:
        return -9
    book.names[key] = Name(day, rank, keys)
    return 0


def enter_choice(book, key, day, name, keys):
    if not (is_key(key) and is_key(name) and is_day(day)):
        return -1
    if len(keys) == 0 or not is_key_list(keys, MOST_IN_LIST):
        return -1
    if key in book.choices:
        return -2
    if name not in book.names:
        return -4
    if day < book.names[name].day:
        return -6
    if len(book.choices) >= MOST_CHOICES:
        return -9
    book.choices[key] = Choice(day, name, keys)
    return 0


def put_sorting(book, key, day, groups):
    if len(groups) > MOST_SPECIMENS or len(book.sortings) >= MOST_SORTINGS:
        return -9
    book.sortings[key] = Sorting(day, groups)
    return 0


def enter_sorting(book, key, day, keys):
    specimens = keys[::2]
    groups = keys[1::2]
    if not (is_key(key) and is_day(day) and len(specimens) == len(groups)):
        return -1
    if not (is_key_list(specimens, MOST_SPECIMENS) and are_keys(groups)):
        return -1
    if key in book.sortings:
        return -2
    return put_sorting(book, key, day, dict(zip(specimens, groups)))


def two_sortings_refusal(book, key, day, a, b):
    """The refusal of a sorting made of two, but for what its size refuses, else 0."""
    if not (is_key(key) and is_day(day)):
        return -1
    if key in book.sortings:
        return -2
    if a not in book.sortings or b not in book.sortings:
        return -4
    if day < book.sortings[a].day or day < book.sortings[b].day:
        return -6
    return 0


def enter_meet(book, key, day, a, b):
    refusal = two_sortings_refusal(book, key, day, a, b)
    if refusal < 0:
        return refusal
    return put_sorting(book, key, day, met_groups(book.sortings[a].groups, book.sortings[b].groups))


def enter_join(book, key, day, a, b):
    refusal = two_sortings_refusal(book, key, day, a, b)
    if refusal < 0:
        return refusal
    return put_sorting(book, key, day, joined_groups(book.sortings[a].groups, book.sortings[b].groups))


def is_needed(book, key):
    """Whether the name is among first candidates that are names, or a choice is on it."""
    for name in book.names.values():
        # What a species's name lists are specimens: the same number there is no name's.
        if name.rank != SPECIES and key in name.first:
            return True
    return any([choice.name == key for choice in book.choices.values()])


def taken_out(table, key):
    if key not in table:
        return -8
    table.pop(key)
    return 0


def withdraw(book, table, key):
    if table == 1:
        if key in book.names and is_needed(book, key):
            return -7
        return taken_out(book.names, key)
    if table == 2:
        return taken_out(book.choices, key)
    if table == 3:
        return taken_out(book.sortings, key)
    return -1
