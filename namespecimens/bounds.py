"""What is a key, a day, a rank and a list of keys, and how much the tables may hold."""

GREATEST_KEY = 1000000000
GREATEST_DAY = 1000000

# The ranks go from a family's, 1, down to this one, whose candidates are specimens.
SPECIES = 3

MOST_NAMES = 48
MOST_CHOICES = 96
MOST_SORTINGS = 12
MOST_IN_LIST = 12
MOST_SPECIMENS = 64
MOST_TO_CHOOSE = 10


def is_key(number):
    return 1 <= number <= GREATEST_KEY


def is_day(number):
    return 0 <= number <= GREATEST_DAY


def is_rank(number):
    return 1 <= number <= SPECIES


def are_keys(numbers):
    return all([is_key(number) for number in numbers])


def is_key_list(numbers, most):
    """Whether the numbers are keys, none twice, and at most so many."""
    return len(numbers) <= most and len(set(numbers)) == len(numbers) and are_keys(numbers)
