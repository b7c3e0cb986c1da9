"""Small logs, and what the document says of them, found by trying everything."""

from itertools import combinations


def log_of(letters):
    """The log whose keys are the letters and whose values are 0, 1, 2 .."""
    return [(letter, i) for i, letter in enumerate(letters)]


def patterns(size):
    """One string of letters for each way in which this many records can share keys."""
    found = [""]
    for _ in range(size):
        found = [word + letter for word in found for letter in "abcdefgh"[:len(set(word)) + 1]]
    return found


def logs_up_to(size):
    return [log_of(word) for many in range(size + 1) for word in patterns(many)]


def subsets(things):
    rows = list(things)
    return [list(some) for many in range(len(rows) + 1) for some in combinations(rows, many)]


def next_of(log, i):
    for j in range(i + 1, len(log)):
        if log[j][0] == log[i][0]:
            return j
    return None


def all_ranges(log):
    return [(a, b) for a in range(len(log)) for b in range(a, len(log))]


def marks_of(log, a, b):
    """What one range marks, as point 1 says it: followed, within the range, by a record with the same key."""
    return [i for i in range(a, b + 1) if any(log[j][0] == log[i][0] for j in range(i + 1, b + 1))]


def marks_of_all(log, ranges):
    return sorted({i for a, b in ranges for i in marks_of(log, a, b)})


def is_allowed(log, kept, longest, walls, a, b):
    if longest is not None and b - a + 1 > longest:
        return False
    if any(a <= w - 1 and w <= b for w in walls):
        return False
    return not any(i in kept for i in marks_of(log, a, b))


def allowed_ranges(log, kept, longest, walls):
    return [(a, b) for a, b in all_ranges(log) if is_allowed(log, kept, longest, walls, a, b)]


def all_results(log, gone, kept, longest, walls):
    """All unions of what allowed ranges mark that have the gone positions in them."""
    unions = {frozenset()}
    for a, b in allowed_ranges(log, kept, longest, walls):
        one = frozenset(marks_of(log, a, b))
        unions |= {union | one for union in unions}
    return sorted(sorted(union) for union in unions if set(gone) <= union)


def lies_inside(log, j, i):
    """Whether both positions have arcs and the one of j lies inside the one of i."""
    if next_of(log, j) is None or next_of(log, i) is None:
        return False
    return i <= j and next_of(log, j) <= next_of(log, i)


def all_conflicts(log, gone, kept, longest, walls):
    """All conflicts, as point 9 lists them."""
    found = [("newest", i) for i in gone if next_of(log, i) is None]
    for i in gone:
        later = next_of(log, i)
        if later is None:
            continue
        if longest is not None and later - i + 1 > longest:
            found.append(("long", i))
        found.extend(("wall", i, w) for w in walls if i < w <= later)
        found.extend(("inside", j, i) for j in kept if lies_inside(log, j, i))
    return found


def all_papers(size):
    """All tuples that have the form of a conflict of a log with this many records, and some beside it."""
    span = range(-1, size + 1)
    found = [(name, i) for name in ("newest", "long", "wall", "inside") for i in span]
    found.extend((name, i, j) for name in ("newest", "long", "wall", "inside") for i in span for j in span)
    return found
