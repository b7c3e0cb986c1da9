"""What the document says of reports, found by listing all fillings, and judged by the words of the points."""

from itertools import product

from tests.papers import is_list_of_positions, is_whole
from tests.search import allowed_by, ascend, is_allowed_by
from tests.small import all_conflicts, all_ranges, marks_of, marks_of_all, next_of


def low_high(end):
    return end if type(end) is tuple else (end, end)


def choices_by_words(log, report):
    """Point 21: the ranges (a, b) with these ends and a <= b."""
    (low, high), (least, greatest) = low_high(report[0]), low_high(report[1])
    return [(a, b) for a, b in all_ranges(log) if low <= a <= high and least <= b <= greatest]


def all_reports(log):
    """All reports of a log."""
    positions = range(len(log))
    spans = [(low, high) for low in positions for high in range(low, len(log))]
    rows = list(product(positions, positions)) + list(product(spans, positions)) + list(product(positions, spans))
    return [row for row in rows if choices_by_words(log, row)]


def some_reports(chance, log, many):
    """Some reports of a log that has records."""
    found = []
    for _ in range(many):
        a, b = sorted([chance.randrange(len(log)), chance.randrange(len(log))])
        kind = chance.choice(["first", "first", "last", "last", "both"])
        if kind == "first":
            found.append(((chance.randint(0, a), chance.randint(a, len(log) - 1)), b))
        elif kind == "last":
            found.append((a, (chance.randint(0, b), chance.randint(b, len(log) - 1))))
        else:
            found.append((a, b))
    return found


def all_agreeing(case, reports, others):
    """All fillings that agree, in their order."""
    log, gone, _, _, _ = case
    right = allowed_by(case)
    rows = [[row for row in choices_by_words(log, report) if row in right] for report in reports] + [right] * others
    marks = {row: set(marks_of(log, *row)) for row in right}
    lists = [list(row) for row in product(*rows)]
    return sorted(row for row in lists if set(gone) <= set().union(*[marks[part] for part in row]))


def marking_counts(log, lists):
    """For each position the number of these lists of ranges that mark it."""
    marks = {row: marks_of(log, *row) for row in {part for value in lists for part in value}}
    found = [0] * len(log)
    for value in lists:
        for i in {i for row in value for i in marks[row]}:
            found[i] += 1
    return found


def agrees_by_words(case, reports, others, value):
    log, gone, _, _, _ = case
    if type(value) is not list or len(value) != len(reports) + others:
        return False
    for row in value:
        if type(row) is not tuple or len(row) != 2 or not all(is_whole(part) for part in row):
            return False
        if not 0 <= row[0] <= row[1] < len(log) or not is_allowed_by(case, *row):
            return False
    if not all(row in choices_by_words(log, report) for report, row in zip(reports, value)):
        return False
    return set(gone) <= set(marks_of_all(log, value))


def is_conflict_by_words(case, value):
    """Whether the value is one of the conflicts, and of the same kinds throughout."""
    return any(type(value) is tuple and same_kinds(value, paper) for paper in all_conflicts(*case))


def same_kinds(value, paper):
    if len(value) != len(paper):
        return False
    return all(type(one) is type(other) and one == other for one, other in zip(value, paper))


def shows_none_by_words(case, reports, others, value):
    """Point 22."""
    log, gone, _, _, _ = case
    if is_conflict_by_words(case, value):
        return True
    if type(value) is not tuple or len(value) != 2 or type(value[0]) is not str:
        return False
    name, told = value
    if name == "report":
        if not is_whole(told) or not 0 <= told < len(reports):
            return False
        return not any(is_allowed_by(case, a, b) for a, b in choices_by_words(log, reports[told]))
    if name != "apart" or not is_list_of_positions(log, told) or len(told) != others + 1:
        return False
    if not all(i in gone and next_of(log, i) is not None for i in told):
        return False
    if not all(ascend(log, i, j) and not is_allowed_by(case, i, next_of(log, j)) for i, j in zip(told, told[1:])):
        return False
    choices = [row for report in reports for row in choices_by_words(log, report) if is_allowed_by(case, *row)]
    return not any(i in marks_of(log, a, b) for i in told for a, b in choices)


def all_papers_of_reports(log, reports, others):
    """All tuples that have the form of ("report", k) or ("apart", positions), and some beside it."""
    found = [("report", k) for k in range(-1, len(reports) + 1)]
    for size in range(others + 3):
        found.extend(("apart", list(row)) for row in product(range(len(log)), repeat=size))
    return found
