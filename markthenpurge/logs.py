"""Logs: their arcs, their newest positions, what ranges mark and what a sweep leaves."""

from markthenpurge.checks import check_positions, check_ranges, is_record
from markthenpurge.errors import InvalidLog


def next_list(log):
    """For each position the first later one with its key, None if it is newest."""
    seen = {}
    nexts = [None] * len(log)
    for i in reversed(range(len(log))):
        key = log[i][0]
        nexts[i] = seen.get(key)
        seen[key] = i
    return nexts


def positions_marked(nexts, ranges):
    """The position list that the ranges mark together."""
    last_from = [-1] * len(nexts)
    for a, b in ranges:
        last_from[a] = max(last_from[a], b)
    found = []
    # Of all ranges that begin at or ahead of i, the one that ends last marks i if any of them does.
    end = -1
    for i, later in enumerate(nexts):
        end = max(end, last_from[i])
        if later is not None and later <= end:
            found.append(i)
    return found


def check_log(log):
    """Raise InvalidLog if the value is not a log."""
    if not isinstance(log, list):
        raise InvalidLog("a log must be a list")
    if not all([is_record(part) for part in log]):
        raise InvalidLog("each record must be a tuple of a key and a value")


def arcs(log):
    """The ascending list of all arcs (i, next(i))."""
    check_log(log)
    return [(i, later) for i, later in enumerate(next_list(log)) if later is not None]


def newest(log):
    """The positions that no later record of the same key follows."""
    check_log(log)
    return [i for i, later in enumerate(next_list(log)) if later is None]


def marked(log, ranges):
    """The positions that the ranges mark together."""
    check_log(log)
    check_ranges(ranges, len(log))
    return positions_marked(next_list(log), ranges)


def done_tombstones(log, gone):
    """The newest tombstones of the whole log of whose keys no earlier record remains."""
    remaining = {}
    found = []
    for i, later in enumerate(next_list(log)):
        key, value = log[i]
        if later is not None:
            if i not in gone:
                remaining[key] = True
        elif value is None and key not in remaining:
            found.append(i)
    return found


def swept(log, gone, *, drop=False):
    """The log of the records that remain without the gone positions; with drop, without done tombstones too."""
    check_log(log)
    check_positions(gone, len(log))
    removed = list(gone)
    if drop:
        removed = removed + done_tombstones(log, gone)
    return [record for i, record in enumerate(log) if i not in removed]
