"""Judges of single values and of lists, for any value whatever.

Each of them looks at the kind of a value before it compares it, so that no foreign value is asked anything.
"""

from markthenpurge.errors import InvalidPosition, InvalidRange

LETTERS = "abcdefghijklmnopqrstuvwxyz"


def is_integer(value):
    """Whether the value is an int; True and False are ints to Python, but no integers here."""
    return isinstance(value, int) and not isinstance(value, bool)


def is_integer_from(value, low):
    return is_integer(value) and value >= low


def is_integer_within(value, low, high):
    return is_integer(value) and low <= value <= high


def is_position(value, many):
    """Whether the value is a position of a log with this many records."""
    return is_integer_within(value, 0, many - 1)


def is_list_or_tuple(value):
    return isinstance(value, (list, tuple))


def is_tuple_of(value, size):
    return isinstance(value, tuple) and len(value) == size


def is_key(value):
    if not isinstance(value, str) or not 1 <= len(value) <= 8:
        return False
    return all([letter in LETTERS for letter in value])


def is_record(value):
    return is_tuple_of(value, 2) and is_key(value[0]) and (value[1] is None or is_integer(value[1]))


def is_range(a, b, many):
    return is_position(a, many) and is_position(b, many) and a <= b


def is_position_list(value, many):
    """Whether the value is a list of positions, ascending and without duplicates."""
    if not isinstance(value, list) or not all([is_position(part, many) for part in value]):
        return False
    return all([before < after for before, after in zip(value, value[1:])])


def check_positions(value, many):
    """Raise InvalidPosition for all but a list or tuple of positions, in any order, perhaps some twice."""
    if not is_list_or_tuple(value) or not all([is_position(part, many) for part in value]):
        raise InvalidPosition("positions must be a list or tuple of positions of the log")


def check_ranges(value, many):
    """Raise InvalidRange for all but a list of ranges."""
    if not isinstance(value, list):
        raise InvalidRange("ranges must be a list")
    for part in value:
        if not is_tuple_of(part, 2) or not is_range(part[0], part[1], many):
            raise InvalidRange("each range must be a tuple (a, b) with 0 <= a <= b <= n - 1")
