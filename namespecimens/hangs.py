"""Calls, one behind another in one list of whole numbers, and their answers."""

from namespecimens.asking import ask_anchor, ask_apart, ask_blocks, ask_candidates, ask_choose, ask_fate, ask_finer
from namespecimens.asking import ask_members, ask_pairs, ask_reach, ask_same, ask_synonyms, ask_through, ask_whatif
from namespecimens.asking import ask_where
from namespecimens.book import Book
from namespecimens.entering import enter_choice, enter_join, enter_meet, enter_name, enter_sorting, withdraw

NAME = 0
NARROW = 1
SORT = 2
MEET = 3
JOIN = 4
WITHDRAW = 5
CANDIDATES = 6
REACH = 7
ANCHOR = 8
SAME = 9
WHERE = 10
WHATIF = 11
MEMBERS = 12
SYNONYMS = 13
FATE = 14
THROUGH = 15
APART = 16
CHOOSE = 17
BLOCKS = 18
FINER = 19

# How many whole numbers stand behind each call's number, ahead of its row of keys if it has one.
WIDTHS = {
    0: 3, 1: 3, 2: 2, 3: 4, 4: 4, 5: 2, 6: 2, 7: 2, 8: 2, 9: 3, 10: 3,
    11: 5, 12: 4, 13: 3, 14: 2, 15: 2, 16: 1, 17: 1, 18: 2, 19: 3, 20: 3,
}

# The calls that have such a row: name, narrow, sort, apart and choose.
WITH_KEYS = (0, 1, 2, 16, 17)


def entered(book, call, told, keys):
    if call == NAME:
        return enter_name(book, told[0], told[1], told[2], keys)
    if call == NARROW:
        return enter_choice(book, told[0], told[1], told[2], keys)
    if call == SORT:
        return enter_sorting(book, told[0], told[1], keys)
    if call == MEET:
        return enter_meet(book, told[0], told[1], told[2], told[3])
    if call == JOIN:
        return enter_join(book, told[0], told[1], told[2], told[3])
    return withdraw(book, told[0], told[1])


def asked_of_names(book, call, told, keys):
    if call == CANDIDATES:
        return ask_candidates(book, told[0], told[1])
    if call == REACH:
        return ask_reach(book, told[0], told[1])
    if call == ANCHOR:
        return ask_anchor(book, told[0], told[1])
    if call == SAME:
        return ask_same(book, told[0], told[1], told[2])
    if call == FATE:
        return ask_fate(book, told[0], told[1])
    if call == THROUGH:
        return ask_through(book, told[0], told[1])
    if call == APART:
        return ask_apart(book, told[0], keys)
    return ask_choose(book, told[0], keys)


def asked_of_sortings(book, call, told):
    if call == WHERE:
        return ask_where(book, told[0], told[1], told[2])
    if call == WHATIF:
        return ask_whatif(book, told[0], told[1], told[2], told[3], told[4])
    if call == MEMBERS:
        return ask_members(book, told[0], told[1], told[2], told[3])
    if call == SYNONYMS:
        return ask_synonyms(book, told[0], told[1], told[2])
    if call == BLOCKS:
        return ask_blocks(book, told[0], told[1])
    if call == FINER:
        return ask_finer(book, told[0], told[1], told[2])
    return ask_pairs(book, told[0], told[1], told[2])


def answered(book, call, told, keys):
    if call <= WITHDRAW:
        return [entered(book, call, told, keys)]
    if call <= SAME or FATE <= call <= CHOOSE:
        return asked_of_names(book, call, told, keys)
    return asked_of_sortings(book, call, told)


def answers(calls):
    """For each call how many numbers are answered, then these."""
    book = Book()
    given = []
    place = 0
    while place < len(calls):
        call = calls[place]
        behind = place + 1 + WIDTHS[call]
        told = calls[place + 1:behind]
        keys = []
        if call in WITH_KEYS:
            start = behind + 1
            behind = start + calls[behind]
            # A slice is a list of its own: what the tables keep is never the list handed in.
            keys = calls[start:behind]
        numbers = answered(book, call, told, keys)
        given.append(len(numbers))
        given.extend(numbers)
        place = behind
    return given
