"""Logs that are alike: patterns, the logs with the same results, and what tells two logs apart."""

from markthenpurge.checks import is_integer_from, is_integer_within
from markthenpurge.counting import befores_of, share_of
from markthenpurge.errors import InvalidLog, InvalidNumber
from markthenpurge.logs import check_log, next_list, positions_marked


def pattern_of(nexts):
    """The pattern of a log with these next positions."""
    found = []
    keys = 0
    for before in befores_of(nexts):
        if before is None:
            found.append(keys)
            keys += 1
        else:
            found.append(found[before])
    return found


def pattern(log):
    """For each record the number of its key, keys being numbered in the order of their first records."""
    check_log(log)
    return pattern_of(next_list(log))


def by_next(log):
    """The positions that are not newest, in the order of their next positions."""
    return [i for i in befores_of(next_list(log)) if i is not None]


def are_alike(log, other):
    """Whether the two logs have as many records and the same results."""
    check_log(log)
    check_log(other)
    return len(log) == len(other) and by_next(log) == by_next(other)


def telling_position(nexts, others):
    """A position whose arc, as a range, marks in the log with these next positions what is no result of the other log.

    None if there is no such position.
    """
    for i, end in enumerate(nexts):
        if end is not None:
            # Each result of the other log that has i has all positions whose arcs lie inside the arc of i there.
            inside = positions_marked(nexts, [(i, end)])
            if others[i] is None or not all([j in inside for j in positions_marked(others, [(i, others[i])])]):
                return i
    return None


def difference(log, other):
    """None if the logs are alike, otherwise a result of just one of them, with the index of this one."""
    check_log(log)
    check_log(other)
    if len(log) != len(other):
        raise InvalidLog("the logs must have the same number of records")
    pair = [next_list(log), next_list(other)]
    for index, nexts in enumerate(pair):
        i = telling_position(nexts, pair[1 - index])
        if i is not None:
            return (index, positions_marked(nexts, [(i, nexts[i])]))
    return None


def pattern_with(order, right_ends, many):
    """The pattern of the log in which the positions of the order have these right ends as their next positions."""
    nexts = [None] * many
    for i, end in zip(order, right_ends):
        nexts[i] = end
    return pattern_of(nexts)


def near(log):
    """The pattern with the first list of right ends, of all logs that are alike."""
    check_log(log)
    order = by_next(log)
    found = []
    end = 0
    for i in order:
        end = max(end, i) + 1
        found.append(end)
    return pattern_with(order, found, len(log))


def fore(log):
    """The pattern with the last list of right ends, of all logs that are alike."""
    check_log(log)
    order = by_next(log)
    first = len(log) - len(order)
    return pattern_with(order, list(range(first, len(log))), len(log))


def sums_from(row):
    """For each place the sum of what stands there and behind it, with 0 for the place behind all."""
    found = [0]
    for value in reversed(row):
        found.append(found[-1] + value)
    return found[::-1]


def ways_by_end(order, many):
    """For each place in the order, by right end: the lists of right ends from there on that begin with this one."""
    found = []
    # By the place behind the right end ahead: the lists that may follow it; there is one if nothing is left.
    behind = [1] * (many + 1)
    for i in reversed(order):
        ways = [behind[end + 1] if end > i else 0 for end in range(many)]
        behind = sums_from(ways)
        found.append(ways)
    return found[::-1]


def alike_count(log):
    """The number of patterns of logs that are alike to the log."""
    check_log(log)
    ways = ways_by_end(by_next(log), len(log))
    return sum(ways[0]) if ways else 1


def nth_alike(log, number):
    """The pattern with this number, of all logs that are alike."""
    if not is_integer_within(number, 0, alike_count(log) - 1):
        raise InvalidNumber("there is no pattern with this number")
    order = by_next(log)
    found = []
    place = number
    first = 0
    for ways in ways_by_end(order, len(log)):
        end, place = share_of(list(range(first, len(log))), ways[first:], place)
        found.append(end)
        first = end + 1
    return pattern_with(order, found, len(log))


def power(base, exponent):
    found = 1
    for _ in range(exponent):
        found = found * base
    return found


def unlike_count(records):
    """The greatest number of logs with this many records of which no two are alike."""
    if not is_integer_from(records, 0):
        raise InvalidNumber("records must be an integer from 0 on")
    return sum([power(keys, records - keys) for keys in range(records + 1)])
