"""What follows from names and choices: candidates, chains and anchors by a day.

The dict of candidates by a day is made once for a call, for all names there by the day,
and handed on: a name and those below it are then looked at in one and the same state.
"""

from namespecimens.book import is_there
from namespecimens.bounds import SPECIES


def fate_among(candidates, chosen):
    """The fate of a choice of this list where these are the candidates at that point."""
    if not all([key in candidates for key in chosen]):
        return 1
    if all([key in chosen for key in candidates]):
        return 2
    return 0


def behind_choice(candidates, chosen):
    """The candidates behind a choice of this list where these are the candidates at that point."""
    return chosen if fate_among(candidates, chosen) == 0 else candidates


def choices_in_order(book):
    return sorted(book.choices, key=lambda choice: (book.choices[choice].day, choice))


def fate_of(book, key):
    """The fate of the choice of this key: the choices behind it have no bearing on it."""
    on = book.choices[key].name
    order = [choice for choice in choices_in_order(book) if book.choices[choice].name == on]
    candidates = book.names[on].first
    for earlier in order[:order.index(key)]:
        candidates = behind_choice(candidates, book.choices[earlier].chosen)
    return fate_among(candidates, book.choices[key].chosen)


def candidates_by_day(book, day):
    """The candidates of each name there by the day, under the name's key."""
    candidates = {}
    for key in book.names:
        if is_there(book.names, key, day):
            candidates[key] = book.names[key].first
    # Choices on unlike names don't meddle with one another, so one walk serves all names.
    for key in choices_in_order(book):
        choice = book.choices[key]
        if choice.day <= day:
            candidates[choice.name] = behind_choice(candidates[choice.name], choice.chosen)
    return candidates


def names_on_chains(book, candidates, key):
    """The keys of all names that the chains of a name go through, itself among them."""
    met = {key: True}
    waiting = [key]
    while waiting:
        at = waiting.pop()
        if book.names[at].rank < SPECIES:
            fresh = [below for below in candidates[at] if below not in met]
            for below in fresh:
                met[below] = True
            waiting.extend(fresh)
    return list(met)


def ends_in_nothing(book, candidates, key):
    """Whether one of the chains of the name does."""
    return any([not candidates[name] for name in names_on_chains(book, candidates, key)])


def specimens_reached(book, candidates, key):
    """The specimens in which the chains of the name end, ascending."""
    found = {}
    for name in names_on_chains(book, candidates, key):
        if book.names[name].rank == SPECIES:
            for specimen in candidates[name]:
                found[specimen] = True
    return sorted(found)


def anchor_above(key, below):
    """The anchor of the name of this key, whose candidates have the anchors below."""
    if not below:
        return (0, 0)
    if below.count(below[0]) == len(below):
        return below[0]
    return (2, key)


def anchors_by_day(book, candidates):
    """The anchor of each name that has candidates told, under the name's key."""
    anchors = {}
    # Species first: the anchors of a name's candidates are then known when it's looked at.
    for key in sorted(candidates, key=lambda name: -book.names[name].rank):
        if book.names[key].rank == SPECIES:
            below = [(1, specimen) for specimen in candidates[key]]
        else:
            below = [anchors[name] for name in candidates[key]]
        anchors[key] = anchor_above(key, below)
    return anchors
