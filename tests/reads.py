"""What the document says of values of reads, found by trying all results, and judged by the words of point 33."""

from tests.papers import is_whole
from tests.small import all_results, lies_inside, next_of

UNTOLD = object()


def value_by_words(log, removed, key, place):
    """The value of the newest remaining record with this key at or before the place, None if there is none."""
    found = [value for i, (name, value) in enumerate(log) if name == key and i <= place and i not in removed]
    return found[-1] if found else None


def keeps_by_words(log, removed, reads):
    pairs = [(value_by_words(log, removed, *read), value_by_words(log, [], *read)) for read in reads]
    return all(one is two if one is None or two is None else one == two for one, two in pairs)


def results_that_keep(case, reads):
    return [row for row in all_results(*case) if keeps_by_words(case[0], row, reads)]


def named_by(case, reads, named, step):
    """The position that the tuple names behind these, UNTOLD if it names none."""
    log, gone, _, _, _ = case
    if type(step) is not tuple or not step or type(step[0]) is not str or not all(is_whole(part) for part in step[1:]):
        return UNTOLD
    name, *told = step
    if name == "gone" and len(told) == 1 and told[0] in gone:
        return told[0]
    if len(told) != 2 or not 0 <= told[1] < len(log):
        return UNTOLD
    i, j = told
    if name == "inside" and i in named and lies_inside(log, j, i):
        return j
    if name == "behind" and 0 <= i < len(reads):
        key, place = reads[i]
        if log[j][0] != key or j > place or log[j][1] == value_by_words(log, [], key, place):
            return UNTOLD
        if all(x in named for x in range(j + 1, place + 1) if log[x][0] == key):
            return j
    return UNTOLD


def bars_by_words(case, reads, named, step):
    log, _, kept, longest, walls = case
    if type(step) is not tuple or not step or type(step[0]) is not str or not all(is_whole(part) for part in step[1:]):
        return False
    name, *told = step
    if name == "empty":
        if len(told) != 1 or not 0 <= told[0] < len(reads):
            return False
        key, place = reads[told[0]]
        if value_by_words(log, [], key, place) is None:
            return False
        return all(x in named for x in range(place + 1) if log[x][0] == key)
    if not told or told[0] not in named:
        return False
    i = told[0]
    if name == "kept":
        return len(told) == 1 and i in kept
    if name == "newest":
        return len(told) == 1 and next_of(log, i) is None
    if next_of(log, i) is None:
        return False
    if name == "long":
        return len(told) == 1 and longest is not None and next_of(log, i) - i + 1 > longest
    return name == "wall" and len(told) == 2 and told[1] in walls and i < told[1] <= next_of(log, i)


def shows_lost_by_words(case, reads, value):
    """Point 33."""
    if type(value) is not list or not value:
        return False
    named = []
    for step in value[:-1]:
        found = named_by(case, reads, named, step)
        if found is UNTOLD:
            return False
        named.append(found)
    return bars_by_words(case, reads, named, value[-1])


def positions_named(case, reads, value):
    """The positions that the tuples of a right derivation name, in its order."""
    named = []
    for step in value[:-1]:
        named.append(named_by(case, reads, named, step))
    return named


def all_steps(size, reads, walls):
    """All tuples that a derivation of a log with this many records can have, and some beside them."""
    span = list(range(-1, size + 1))
    found = [(name, i) for name in ("gone", "newest", "long", "kept", "empty") for i in span]
    found += [("inside", i, j) for i in span for j in span] + [("wall", i, w) for i in span for w in walls + [0]]
    return found + [("behind", k, j) for k in range(-1, reads + 1) for j in span]
