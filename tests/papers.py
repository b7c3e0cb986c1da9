"""Judges of papers, by the conditions as the points write them, and papers that are bent at some place."""

from tests.search import allowed_by, ascend, corners_of, is_allowed_by, keeps_rules
from tests.small import all_results, marks_of, marks_of_all, next_of

FOREIGN = [True, False, None, 1.0, "1", (1,), [1]]
NAMES = [
    "newest", "long", "wall", "inside", "report", "apart", "pair", "circle", "late", "gone", "behind", "kept", "empty",
]


def is_whole(value):
    return type(value) is int


def is_list_of_positions(log, value):
    if type(value) is not list or not all(is_whole(i) and 0 <= i < len(log) for i in value):
        return False
    return all(i < j for i, j in zip(value, value[1:]))


def shows_fewest_by_words(case, number, value):
    """Point 12."""
    log, gone, _, _, _ = case
    if not all_results(*case) or not is_whole(number) or not is_list_of_positions(log, value) or len(value) != number:
        return False
    if not all(i in gone and next_of(log, i) is not None for i in value):
        return False
    pairs = zip(value, value[1:])
    return all(ascend(log, i, j) and not is_allowed_by(case, i, next_of(log, j)) for i, j in pairs)


def are_pairwise_apart(case, value):
    """Point 11: any two of the gone positions ascend and are apart."""
    log, gone, _, _, _ = case
    pairs = [(i, j) for i in value for j in value if i < j]
    if not all(ascend(log, i, j) and not is_allowed_by(case, i, next_of(log, j)) for i, j in pairs):
        return False
    return all(i in gone for i in value)


def shows_most_by_words(case, top, value):
    """Point 13."""
    log = case[0]
    results = all_results(*case)
    if not results or not is_whole(top) or type(value) is not list or len(value) != len(log):
        return False
    for pair in value:
        if type(pair) is not tuple or len(pair) != 2 or not all(is_whole(part) and part >= 0 for part in pair):
            return False
    going = {i for row in results for i in row}
    staying = {i for i in range(len(log)) if next_of(log, i) is not None and any(i not in row for row in results)}
    f = [pair[0] for pair in value]
    s = [pair[1] for pair in value]
    if not all(1 <= f[j] <= top for j in going):
        return False
    for i in range(len(log)):
        for j in range(len(log)):
            if not ascend(log, i, j):
                continue
            if i in going and j in staying and not s[j] >= f[i]:
                return False
            if i in staying and j in going and not f[j] >= s[i] + 1:
                return False
            if i in going and j in going and not keeps_rules(case, i, next_of(log, j)) and not f[j] >= f[i] + 1:
                return False
    return True


def shows_price_by_words(case, prices, fee, price, value):
    """Point 14."""
    log, gone, _, _, _ = case
    if not all_results(*case) or not is_whole(price) or type(value) is not list:
        return False
    corners = corners_of(log, gone)
    if len(value) != len(corners) + 1 or not all(is_whole(part) for part in value):
        return False
    for a in range(len(corners)):
        for b in range(a + 1, len(corners) + 1):
            first, last = corners[a], next_of(log, corners[b - 1])
            if is_allowed_by(case, first, last) and value[b] > value[a] + fee + sum(prices[first:last + 1]):
                return False
    return value[0] == 0 and value[-1] == price


def longest_by_words(case):
    ranges = allowed_by(case)
    return [(a, b) for a, b in ranges if not any((c, d) != (a, b) and c <= a and b <= d for c, d in ranges)]


def shows_freed_by_words(case, sizes, many, most, value):
    """Point 15."""
    log, gone, _, _, _ = case
    if not all_results(*case) or not is_whole(many) or not is_whole(most):
        return False
    marks = [set(marks_of(log, a, b)) for a, b in longest_by_words(case)]
    if type(value) is not tuple or len(value) != 2 or not is_whole(value[0]) or value[0] < 0:
        return False
    q, numbers = value
    if type(numbers) is not list or len(numbers) != len(marks) or not all(is_whole(part) for part in numbers):
        return False
    for k, here in enumerate(marks):
        if marked_among(gone, marks[:k]) <= here and numbers[k] < sum(sizes[i] for i in here) - q:
            return False
        for j in range(k):
            if marked_among(gone, marks[j + 1:k]) <= marks[j] | here:
                if numbers[k] < numbers[j] + sum(sizes[i] for i in here - marks[j]) - q:
                    return False
        if marked_among(gone, marks[k + 1:]) <= here and most < q * many + numbers[k]:
            return False
    return len(gone) > 0 or most >= q * many


def marked_among(gone, marks):
    return {i for i in gone if any(i in one for one in marks)}


def shows_fewest_of_by_words(log, ranges, number, value):
    """Point 16."""
    if not is_whole(number) or not is_list_of_positions(log, value) or len(value) != number:
        return False
    if not all(i in marks_of_all(log, ranges) for i in value):
        return False
    pairs = [(i, j) for i in value for j in value if i < j]
    return not any(i in marks_of(log, a, b) and j in marks_of(log, a, b) for i, j in pairs for a, b in ranges)


def bent_parts(value):
    """Values unlike this one, each of them bent at one place: a number, a name, or a list or tuple at any depth."""
    if is_whole(value):
        return [value - 1, value + 1, value - 10 ** 40, value + 10 ** 40, -value - 1] + FOREIGN
    if type(value) is str:
        return [name for name in NAMES if name != value] + ["", value + " ", value.upper(), [value], 0, None, True]
    kind = type(value)
    rows = list(value)
    found = [tuple(rows) if kind is list else rows, kind(rows + [0]), kind(rows + rows[-1:] + [5]), [rows], (rows,)]
    for k, part in enumerate(rows):
        found.append(kind(rows[:k] + rows[k + 1:]))
        found.append(kind(rows[:k] + [part] + rows[k:]))
        found.extend(kind(rows[:k] + [bent] + rows[k + 1:]) for bent in bent_parts(part))
        if k > 0 and rows[k - 1] != part:
            found.append(kind(rows[:k - 1] + [part, rows[k - 1]] + rows[k + 1:]))
    return found
