"""The three tables, each a dict from a key to what is kept under it.

The groups of a sorting are a dict from each specimen to its group.
"""


class Name:
    def __init__(self, day, rank, first):
        self.day = day
        self.rank = rank
        self.first = first


class Choice:
    def __init__(self, day, name, chosen):
        self.day = day
        self.name = name
        self.chosen = chosen


class Sorting:
    def __init__(self, day, groups):
        self.day = day
        self.groups = groups


class Book:
    def __init__(self):
        self.names = {}
        self.choices = {}
        self.sortings = {}


def is_there(table, key, day):
    """Whether what is kept under this key is there by the day."""
    return key in table and table[key].day <= day
