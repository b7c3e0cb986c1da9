"""Prices and sizes: the cheapest ranges, the ranges that free the most, and the fewest ranges of a list."""

from markthenpurge.checks import check_ranges, is_integer, is_integer_from, is_position_list, is_tuple_of
from markthenpurge.errors import InvalidNumber, InvalidPrice
from markthenpurge.facts import check_results, conflict, ends_of, nexts_of
from markthenpurge.logs import check_log, next_list, positions_marked
from markthenpurge.ranges import fewest, outermost


def check_amounts(value, many):
    """Raise InvalidPrice for all but a list with an integer from 0 on for each position."""
    if not isinstance(value, list) or len(value) != many:
        raise InvalidPrice("there must be a list with an amount for each position")
    if not all([is_integer_from(part, 0) for part in value]):
        raise InvalidPrice("an amount must be an integer from 0 on")


def check_prices(prices, fee, many):
    """Raise InvalidPrice if these are no prices of the positions or no fee."""
    check_amounts(prices, many)
    if not is_integer_from(fee, 0):
        raise InvalidPrice("a fee must be an integer from 0 on")


def gone_corners(facts):
    return outermost(nexts_of(facts), facts.gone)


def price_steps(facts, prices, fee):
    """A tuple (a, b, cost) for each allowed range that marks the corners of the gone positions from the first one
    behind a of them to the b-th one; ascending."""
    sums = [0]
    for price in prices:
        sums.append(sums[-1] + price)
    nexts = nexts_of(facts)
    ends = ends_of(facts)
    tops = gone_corners(facts)
    found = []
    for a, first in enumerate(tops):
        for b in range(a + 1, len(tops) + 1):
            last = nexts[tops[b - 1]]
            if last <= ends[first]:
                found.append((a, b, fee + sums[last + 1] - sums[first]))
    return found


def cheaper(first, second):
    """The lower one of two prices, the first of which may be None for no price yet."""
    if first is None or second < first:
        return second
    return first


def potentials(facts, prices, fee):
    """A list that shows that no allowed ranges that mark all gone positions cost less than the least price."""
    check_prices(prices, fee, len(facts))
    check_results(facts)
    # The least prices for the first corners. The steps ascend, so all that lead to a corner come ahead of those that
    # begin behind it; and there is one to each corner, since the arc of a gone position is allowed.
    best = [0] + [None] * len(gone_corners(facts))
    for a, b, cost in price_steps(facts, prices, fee):
        best[b] = cheaper(best[b], best[a] + cost)
    return best


def least_price(facts, prices, fee):
    """The least total cost of allowed ranges that mark all gone positions."""
    return potentials(facts, prices, fee)[-1]


def cheapest(facts, prices, fee):
    """Allowed ranges with the least price that mark all gone positions."""
    best = potentials(facts, prices, fee)
    steps = price_steps(facts, prices, fee)
    nexts = nexts_of(facts)
    tops = gone_corners(facts)
    found = []
    done = len(tops)
    while done > 0:
        starts = [a for a, b, cost in steps if b == done and best[a] + cost == best[b]]
        found.append((tops[starts[0]], nexts[tops[done - 1]]))
        done = starts[0]
    return found[::-1]


def with_one_range_more(row, steps):
    """The least prices for the first corners with at most one range more than in this row."""
    found = list(row)
    for a, b, cost in steps:
        if row[a] is not None:
            found[b] = cheaper(found[b], row[a] + cost)
    return found


def price_list(facts, prices, fee):
    """The least prices with at most k ranges, for k from the fewest to the number of corners of the gone positions."""
    check_prices(prices, fee, len(facts))
    check_results(facts)
    steps = price_steps(facts, prices, fee)
    many = len(gone_corners(facts))
    row = [0] + [None] * many
    found = [row[-1]]
    for _ in range(many):
        row = with_one_range_more(row, steps)
        found.append(row[-1])
    return found[fewest(facts):]


def shows_price(facts, prices, fee, price, value):
    """Whether the value is a list that shows that no allowed ranges that mark all gone positions cost less."""
    check_prices(prices, fee, len(facts))
    if conflict(facts) is not None or not is_integer(price):
        return False
    if not isinstance(value, list) or len(value) != len(gone_corners(facts)) + 1:
        return False
    if not all([is_integer(part) for part in value]) or value[0] != 0 or value[-1] != price:
        return False
    return all([value[b] <= value[a] + cost for a, b, cost in price_steps(facts, prices, fee)])


def longest_ranges(facts):
    """The allowed ranges that lie in no other allowed range, ascending."""
    ends = ends_of(facts)
    return [(a, end) for a, end in enumerate(ends) if a == 0 or ends[a - 1] < end]


def marking_spans(facts, ranges):
    """For each gone position the numbers, from 1 on, of the first and the last one of the longest ranges that mark it.

    There is such a range for each of them if the facts have no conflict.
    """
    nexts = nexts_of(facts)
    found = []
    for i in facts.gone:
        numbers = [k for k, (a, b) in enumerate(ranges, 1) if a <= i and nexts[i] <= b]
        found.append((numbers[0], numbers[-1]))
    return found


def freeing_steps(facts, sizes):
    """A tuple (j, k, freed) wherever the k-th of the longest ranges may follow the j-th one, with the sizes that the
    k-th one frees and the j-th one does not; ascending.

    The ranges are numbered from 1 on. A step from 0 leads to a range that may be the first one. A step to the number
    behind the last range, which frees nothing, comes from a range that may be the last one, or from 0 if no range is
    needed.
    """
    ranges = longest_ranges(facts)
    spans = marking_spans(facts, ranges)
    nexts = nexts_of(facts)
    marks = [positions_marked(nexts, [one]) for one in ranges] + [[]]
    lasts = [-1] + [b for _, b in ranges]
    found = []
    for j, last in enumerate(lasts):
        for k in range(j + 1, len(marks) + 1):
            # A gone position that is marked between the two alone would be left out.
            if not any([j < low and high < k for low, high in spans]):
                # The j-th range begins ahead of the k-th one, so it misses just what ends behind it.
                found.append((j, k, sum([sizes[i] for i in marks[k - 1] if nexts[i] > last])))
    return found


def choices_by_number(steps, goal, many):
    """For each number of ranges from 0 to many: the most that just so many free, and a list of their numbers with the
    goal behind them; or None if the steps do not lead to the goal so."""
    row = [(0, [])] + [None] * goal
    found = []
    for _ in range(many + 1):
        behind = [None] * (goal + 1)
        for j, k, freed in steps:
            if row[j] is not None and (behind[k] is None or row[j][0] + freed > behind[k][0]):
                behind[k] = (row[j][0] + freed, row[j][1] + [k])
        found.append(behind[goal])
        row = behind
    return found


def best_choice(facts, sizes, many):
    """The most that at most many longest ranges free if they mark all gone positions, and these ranges."""
    ranges = longest_ranges(facts)
    rows = choices_by_number(freeing_steps(facts, sizes), len(ranges) + 1, min(many, len(ranges)))
    freed, numbers = max([row for row in rows if row is not None])
    return freed, [ranges[k - 1] for k in numbers[:-1]]


def check_freeing(facts, sizes, many):
    """Raise the errors of sizes, of a conflict and of a number below the fewest ranges, in this order."""
    check_amounts(sizes, len(facts))
    check_results(facts)
    if not is_integer_from(many, fewest(facts)):
        raise InvalidNumber("many must be an integer from the fewest number of ranges on")


def most_freed(facts, sizes, many):
    """The most that at most many allowed ranges free if they mark all gone positions."""
    check_freeing(facts, sizes, many)
    return best_choice(facts, sizes, many)[0]


def freeing(facts, sizes, many):
    """At most many allowed ranges that free the most and mark all gone positions."""
    check_freeing(facts, sizes, many)
    return best_choice(facts, sizes, many)[1]


def freed_paper(facts, sizes, many):
    """A tuple (price, numbers) that shows that so many ranges do not free more than the most."""
    check_freeing(facts, sizes, many)
    # Each further range frees at most as much more as the one before it. So if a range costs what the next one would
    # free more, no other number of ranges is worth more than this one.
    price = best_choice(facts, sizes, many + 1)[0] - best_choice(facts, sizes, many)[0]
    goal = len(longest_ranges(facts)) + 1
    worth = [0] + [None] * goal
    for j, k, freed in freeing_steps(facts, sizes):
        reached = worth[j] + freed - price
        if worth[k] is None or reached > worth[k]:
            worth[k] = reached
    return price, worth[1:goal]


def is_freed_paper(value, many):
    """Whether the value has the form of a paper for this many longest ranges."""
    if not is_tuple_of(value, 2) or not is_integer_from(value[0], 0):
        return False
    if not isinstance(value[1], list) or len(value[1]) != many:
        return False
    return all([is_integer(part) for part in value[1]])


def shows_freed(facts, sizes, many, most, value):
    """Whether the value is a paper that shows that so many ranges do not free more than most."""
    check_amounts(sizes, len(facts))
    if conflict(facts) is not None or not is_integer(many) or not is_integer(most):
        return False
    if not is_freed_paper(value, len(longest_ranges(facts))):
        return False
    price, numbers = value
    # The step to the goal is no range, so the price that each step takes is taken here, too.
    worth = [0, *numbers, most - price * many - price]
    return all([worth[k] >= worth[j] + freed - price for j, k, freed in freeing_steps(facts, sizes)])


def covering(nexts, ranges):
    """Tuples (position, index) for fewest ranges that mark together what all mark, each one with the first corner
    that those ahead of it do not mark."""
    found = []
    end = -1
    for corner in outermost(nexts, positions_marked(nexts, ranges)):
        if nexts[corner] > end:
            # Of the ranges that begin early enough, the one that ends last marks the most corners from here on.
            end, chosen = max([(b, index) for index, (a, b) in enumerate(ranges) if a <= corner])
            found.append((corner, chosen))
    return found


def check_log_and_ranges(log, ranges):
    check_log(log)
    check_ranges(ranges, len(log))


def fewest_of(log, ranges):
    """The indexes of fewest ranges of the list that mark together what all mark."""
    check_log_and_ranges(log, ranges)
    return sorted([index for _, index in covering(next_list(log), ranges)])


def spread(log, ranges):
    """As many marked positions, no two of them marked by one range of the list."""
    check_log_and_ranges(log, ranges)
    return [corner for corner, _ in covering(next_list(log), ranges)]


def shows_fewest_of(log, ranges, number, value):
    """Whether the value is this number of marked positions, no two of them marked by one range of the list."""
    check_log_and_ranges(log, ranges)
    if not is_integer(number) or not is_position_list(value, len(log)) or len(value) != number:
        return False
    nexts = next_list(log)
    marked_by_all = positions_marked(nexts, ranges)
    if not all([i in marked_by_all for i in value]):
        return False
    return all([len([i for i in value if a <= i and nexts[i] <= b]) <= 1 for a, b in ranges])


def idle(log, ranges):
    """The indexes of the ranges without which the others mark together what all mark."""
    check_log_and_ranges(log, ranges)
    nexts = next_list(log)
    marked_by_all = positions_marked(nexts, ranges)
    others = [ranges[:index] + ranges[index + 1:] for index in range(len(ranges))]
    return [index for index, rows in enumerate(others) if positions_marked(nexts, rows) == marked_by_all]
