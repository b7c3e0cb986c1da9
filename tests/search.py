"""What the document says of ranges, prices and numbers of results, found by trying everything."""

from itertools import combinations

from tests.small import all_results, allowed_ranges, is_allowed, lies_inside, marks_of, next_of


def keeps_rules(case, a, b):
    log, _, _, longest, walls = case
    return is_allowed(log, [], longest, walls, a, b)


def is_allowed_by(case, a, b):
    log, _, kept, longest, walls = case
    return is_allowed(log, kept, longest, walls, a, b)


def allowed_by(case):
    log, _, kept, longest, walls = case
    return allowed_ranges(log, kept, longest, walls)


def ascend(log, i, j):
    """Whether both positions have arcs of which both ends of the second one are greater."""
    if next_of(log, i) is None or next_of(log, j) is None:
        return False
    return i < j and next_of(log, i) < next_of(log, j)


def corners_of(log, positions):
    return [i for i in sorted(set(positions)) if not any(i != j and lies_inside(log, i, j) for j in positions)]


def fewest_for_each(log, ranges):
    """For each frozenset of positions that some of the ranges mark together, how few of them do so."""
    marks = {frozenset(marks_of(log, a, b)) for a, b in ranges}
    found = {frozenset(): 0}
    layer = [frozenset()]
    while layer:
        behind = []
        for union in layer:
            for one in marks:
                if union | one not in found:
                    found[union | one] = found[union] + 1
                    behind.append(union | one)
        layer = behind
    return found


def needs_of_results(case):
    """A dict from each result, as a tuple, to the number of ranges that it needs."""
    log, _, _, longest, walls = case
    few = fewest_for_each(log, allowed_ranges(log, [], longest, walls))
    return {tuple(row): few[frozenset(row)] for row in all_results(*case)}


def blocks_of(case, result):
    """The blocks of a result, taken as point 17 says."""
    log = case[0]
    found = []
    for corner in corners_of(log, result):
        later = next_of(log, corner)
        if found:
            first = found[-1][0]
            if keeps_rules(case, first, later) and set(marks_of(log, first, later)) <= set(result):
                found[-1] = (first, later)
                continue
        found.append((corner, later))
    return found


def results_in_order(case):
    """All results, in the order of their numbers."""
    needs = needs_of_results(case)
    return sorted([list(row) for row in needs], key=lambda row: (needs[tuple(row)], blocks_of(case, row)))


def best_by_number(case, worth, many):
    """For each k up to many the best worth of any list of k allowed ranges that mark all gone positions, or None.

    worth(union, a, b) is what the range (a, b) adds to a list that marks this union; the least sum is the best one.
    """
    log, gone, _, _, _ = case
    marks = {(a, b): frozenset(marks_of(log, a, b)) for a, b in allowed_by(case)}
    layer = {frozenset(): 0}
    found = []
    for _ in range(many + 1):
        found.append(min((total for union, total in layer.items() if set(gone) <= union), default=None))
        behind = {}
        for union, total in layer.items():
            for (a, b), one in marks.items():
                more = total + worth(union, a, b)
                behind[union | one] = min(more, behind.get(union | one, more))
        layer = behind
    return found


def prices_by_number(case, prices, fee, many):
    return best_by_number(case, lambda union, a, b: fee + sum(prices[a:b + 1]), many)


def freed_by_number(case, sizes, many):
    """For each k up to many the most that any list of k allowed ranges frees that marks all gone positions, or None."""
    log = case[0]

    def worth(union, a, b):
        return -sum(sizes[i] for i in marks_of(log, a, b) if i not in union)

    return [None if total is None else -total for total in best_by_number(case, worth, many)]


def sets_by_listing(case, most):
    """For each size the number of sets of allowed ranges that mark all gone positions, each set looked at."""
    log, gone, _, _, _ = case
    marks = [set(marks_of(log, a, b)) for a, b in allowed_by(case)]
    found = []
    for size in range(most + 1):
        rows = combinations(marks, size)
        found.append(sum(1 for row in rows if set(gone) <= set().union(*row)))
    return found


def sets_by_unions(case, most):
    """The same numbers, with all sets that mark the same positions taken together."""
    log, gone, _, _, _ = case
    table = {(frozenset(), 0): 1}
    for a, b in allowed_by(case):
        one = frozenset(marks_of(log, a, b))
        for (union, size), number in list(table.items()):
            if size < most:
                key = (union | one, size + 1)
                table[key] = table.get(key, 0) + number
    found = [0] * (most + 1)
    for (union, size), number in table.items():
        if set(gone) <= union:
            found[size] += number
    return found


def choices_that_mark_all(log, ranges):
    """All lists of indexes of ranges that mark together what all of them mark."""
    def union(indexes):
        return {i for k in indexes for i in marks_of(log, *ranges[k])}

    whole = union(range(len(ranges)))
    rows = [row for size in range(len(ranges) + 1) for row in combinations(range(len(ranges)), size)]
    return [list(row) for row in rows if union(row) == whole]
