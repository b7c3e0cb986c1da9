"""What the document says of rounds, found by following records and reads and by trying everything."""

from itertools import product

from tests.papers import is_whole
from tests.small import all_ranges, lies_inside, next_of


def marks_standing(log, standing, a, b):
    """Point 28: what a range marks where these positions stand."""
    inside = [i for i in sorted(standing) if a <= i <= b]
    return {i for i in inside if any(j > i and log[j][0] == log[i][0] for j in inside)}


def follow(log, rounds):
    """The list of the position lists that are removed in each round."""
    standing = set(range(len(log)))
    found = []
    for ranges in rounds:
        removed = set().union(*[marks_standing(log, standing, a, b) for a, b in ranges])
        standing -= removed
        found.append(sorted(removed))
    return found


def answer(log, standing, key, place):
    return max((i for i in standing if log[i][0] == key and i <= place), default=None)


def is_steady_by_words(log, removed):
    """Point 29, for what is removed in each round."""
    for key in {key for key, _ in log} | {"other"}:
        for place in range(len(log)):
            standing = set(range(len(log)))
            answers = [answer(log, standing, key, place)]
            for row in removed:
                standing -= set(row)
                answers.append(answer(log, standing, key, place))
            if sum(1 for one, other in zip(answers, answers[1:]) if one != other) > 1:
                return False
    return True


def ranges_that_remove(log, standing, row):
    """All ranges that mark nothing but this row, None if they do not mark all of it."""
    found = [(a, b) for a, b in all_ranges(log) if marks_standing(log, standing, a, b) <= set(row)]
    marked = set().union(*[marks_standing(log, standing, a, b) for a, b in found])
    return found if marked == set(row) else None


def can_be_run(log, removed):
    """Whether some rounds remove just this in each round."""
    standing = set(range(len(log)))
    for row in removed:
        if ranges_that_remove(log, standing, row) is None:
            return False
        standing -= set(row)
    return True


def keeps_bounds(chosen, bounds):
    return all(low <= chosen[i] and (high is None or chosen[i] <= high) for i, low, high in bounds)


def all_plans(log, gone, bounds, many):
    """All ways to choose one of so many rounds for each gone position for which there are steady rounds: dicts."""
    positions = sorted(set(gone))
    found = []
    for numbers in product(range(1, many + 1), repeat=len(positions)):
        chosen = dict(zip(positions, numbers))
        removed = [[i for i in positions if chosen[i] == at] for at in range(1, many + 1)]
        if keeps_bounds(chosen, bounds) and is_steady_by_words(log, removed) and can_be_run(log, removed):
            found.append(chosen)
    return found


def enough_rounds(gone, bounds):
    """With so many rounds there is a plan, if there is any."""
    return max([low for _, low, _ in bounds], default=1) + len(set(gone)) - 1 if gone else 0


def waits(log, gone, p, q):
    """Point 30: what a step from p to q counts, None if p does not wait for q."""
    if next_of(log, p) is not None and p < q < next_of(log, p):
        if any(log[x][0] == log[q][0] and x not in gone for x in range(p + 1, q)):
            return 1
    same = [x for x in range(p) if log[x][0] == log[p][0]]
    if same and q == same[-1]:
        return 0
    return 0 if q != p and lies_inside(log, q, p) else None


def is_chain_by_words(log, gone, value):
    if type(value) is not list or not value or not all(is_whole(p) and p in gone for p in value):
        return False
    return all(waits(log, gone, p, q) is not None for p, q in zip(value, value[1:]))


def counted_by_words(log, gone, chain):
    return sum(waits(log, gone, p, q) for p, q in zip(chain, chain[1:]))


def least_round_by_words(log, gone, bounds, chain):
    lows = [low for i, low, _ in bounds if i == chain[-1]]
    return counted_by_words(log, gone, chain) + max(lows, default=1)


def shows_no_plan_by_words(log, gone, bounds, value):
    """Point 31."""
    if type(value) is not tuple or not value or type(value[0]) is not str:
        return False
    name, *told = value
    if name == "newest" and len(told) == 1:
        return is_whole(told[0]) and told[0] in gone and next_of(log, told[0]) is None
    if name == "pair" and len(told) == 3 and all(is_whole(i) and 0 <= i < len(log) for i in told):
        i, p, q = told
        if i not in gone or p in gone or q in gone or next_of(log, i) is None or log[p][0] != log[q][0]:
            return False
        return i < p < q < next_of(log, i)
    if name not in ("circle", "late") or len(told) != 1 or not is_chain_by_words(log, gone, told[0]):
        return False
    chain = told[0]
    if name == "circle":
        return len(chain) > 1 and chain[0] == chain[-1] and counted_by_words(log, gone, chain) > 0
    least = least_round_by_words(log, gone, bounds, chain)
    return any(i == chain[0] and high is not None and high < least for i, _, high in bounds)


def shows_rounds_by_words(log, gone, bounds, number, value):
    if not is_whole(number):
        return False
    if type(value) is list and not value:
        return not gone and number == 0
    return is_chain_by_words(log, gone, value) and number == least_round_by_words(log, gone, bounds, value)


def is_order_by_words(log, gone, value):
    """Whether the value is an order of point 32."""
    if type(value) is not list or sorted(value) != sorted(set(gone)):
        return False
    standing = set(range(len(log)))
    for i in value:
        later = [j for j in sorted(standing) if j > i and log[j][0] == log[i][0]]
        if not later:
            return False
        keys = [log[x][0] for x in standing if i < x < later[0]]
        if len(keys) != len(set(keys)):
            return False
        standing.remove(i)
    return True


def reached_by_rounds(log):
    """All sets of positions that some rounds remove together; each round is as good as rounds of one range each."""
    found = {frozenset()}
    layer = [frozenset()]
    while layer:
        behind = []
        for removed in layer:
            standing = set(range(len(log))) - removed
            for a, b in all_ranges(log):
                more = removed | marks_standing(log, standing, a, b)
                if more not in found:
                    found.add(more)
                    behind.append(more)
        layer = behind
    return found
