"""Rounds: steady plans that remove given positions, the papers that bar or bound them, and what any rounds reach."""

from markthenpurge.checks import check_positions, check_ranges, is_integer, is_integer_from, is_list_or_tuple
from markthenpurge.checks import is_tuple_of
from markthenpurge.errors import InvalidBound, InvalidNumber, InvalidRange
from markthenpurge.logs import check_log, next_list, positions_marked
from markthenpurge.waits import Schedule, Waits


def check_rounds(rounds, many):
    """Raise InvalidRange for all but a list of lists of ranges."""
    if not isinstance(rounds, list):
        raise InvalidRange("rounds must be a list")
    for ranges in rounds:
        check_ranges(ranges, many)


def is_bound(value, gone):
    """Whether the value is a bound of one of these positions."""
    if not is_tuple_of(value, 3):
        return False
    place, low, high = value
    if not is_integer(place) or place not in gone or not is_integer_from(low, 1):
        return False
    return high is None or is_integer_from(high, low)


def check_bounds(bounds, gone):
    """Raise InvalidBound for all but a list or tuple of bounds of gone positions."""
    if not is_list_or_tuple(bounds) or not all([is_bound(bound, gone) for bound in bounds]):
        raise InvalidBound("bounds must be a list or tuple of tuples of a gone position, a low and a high round")


def next_standing(nexts, standing):
    """For each standing position the first later standing one with its key, otherwise None."""
    found = [None] * len(nexts)
    for i in reversed(range(len(nexts))):
        later = nexts[i]
        if later is not None:
            found[i] = later if standing[later] else found[later]
    return [later if standing[i] else None for i, later in enumerate(found)]


def removed_in_each(log, rounds):
    """The list of the position lists that are removed in each round."""
    nexts = next_list(log)
    standing = [True] * len(log)
    found = []
    for ranges in rounds:
        removed = positions_marked(next_standing(nexts, standing), ranges)
        for i in removed:
            standing[i] = False
        found.append(removed)
    return found


def after(log, rounds):
    """The list of the position lists that are removed in each round."""
    check_log(log)
    check_rounds(rounds, len(log))
    return removed_in_each(log, rounds)


def answers_of(log, standing):
    """For each position the answer of the read of its key there; no other read has other answers."""
    last = {}
    found = []
    for i, (key, _) in enumerate(log):
        if standing[i]:
            last[key] = i
        found.append(last.get(key))
    return found


def is_steady(log, rounds):
    """Whether no read has an answer that changes more than once."""
    check_log(log)
    check_rounds(rounds, len(log))
    standing = [True] * len(log)
    answers = answers_of(log, standing)
    changes = [0] * len(log)
    for removed in removed_in_each(log, rounds):
        for i in removed:
            standing[i] = False
        later = answers_of(log, standing)
        changes = [number + 1 if one != other else number for number, one, other in zip(changes, answers, later)]
        answers = later
    return all([number <= 1 for number in changes])


def waits_of(log, gone, bounds):
    """The waits of checked arguments."""
    check_log(log)
    check_positions(gone, len(log))
    check_bounds(bounds, gone)
    return Waits(log, gone, bounds)


def schedule_of(log, gone, bounds):
    """The schedule of a plan; raises NoPlan if there is none."""
    schedule = Schedule(waits_of(log, gone, bounds))
    schedule.check()
    return schedule


def steady(log, gone, *, bounds=()):
    """A steady plan of the fewest rounds, or a paper that shows that there is none."""
    schedule = Schedule(waits_of(log, gone, bounds))
    bar = schedule.bar()
    if bar is not None:
        return ("none", bar)
    return ("plan", schedule.plan())


def shows_circle(waits, value):
    if not waits.is_chain(value) or len(value) < 2 or value[0] != value[-1]:
        return False
    return waits.counted(value) > 0


def shows_late(waits, value):
    if not waits.is_chain(value):
        return False
    high = waits.high(value[0])
    return high is not None and high < waits.least_round(value)


def shows_no_plan(log, gone, value, *, bounds=()):
    """Whether the value is a paper that shows that there is no steady plan."""
    waits = waits_of(log, gone, bounds)
    if not isinstance(value, tuple) or len(value) < 2 or not isinstance(value[0], str):
        return False
    name, *told = value
    if name == "pair":
        return len(told) == 3 and waits.is_pair(told[0], told[1], told[2])
    if len(told) != 1:
        return False
    if name == "newest":
        return waits.is_newest(told[0])
    if name == "circle":
        return shows_circle(waits, told[0])
    return name == "late" and shows_late(waits, told[0])


def fewest_rounds(log, gone, *, bounds=()):
    """The fewest rounds of a steady plan."""
    return schedule_of(log, gone, bounds).fewest()


def longest_chain(log, gone, *, bounds=()):
    """A chain that shows the fewest rounds, the empty list if nothing is gone."""
    return schedule_of(log, gone, bounds).longest_chain()


def shows_rounds(log, gone, number, value, *, bounds=()):
    """Whether the value is a chain that shows that at least this number of rounds is needed."""
    waits = waits_of(log, gone, bounds)
    if not is_integer(number):
        return False
    if isinstance(value, list) and len(value) == 0:
        return number == 0 and waits.gone_positions() == []
    return waits.is_chain(value) and number == waits.least_round(value)


def windows(log, gone, many, *, bounds=()):
    """For each gone position its earliest and its latest round over all steady plans of many rounds."""
    schedule = schedule_of(log, gone, bounds)
    if not is_integer_from(many, schedule.fewest()):
        raise InvalidNumber("many must be an integer from the fewest number of rounds on")
    return schedule.windows(many)


def may_leave(log, removed, i):
    """Whether a range of one round can remove this position alone, where these are removed already."""
    key = log[i][0]
    between = []
    for j in range(i + 1, len(log)):
        if j not in removed:
            if log[j][0] == key:
                return True
            if log[j][0] in between:
                return False
            between.append(log[j][0])
    return False


def reachable(log, gone):
    """All gone positions in an order in which any rounds can remove them one after another, None if there is none."""
    check_log(log)
    check_positions(gone, len(log))
    wanted = sorted(set(gone))
    orders = [[]]
    for _ in wanted:
        # Of all orders of the same positions one is enough.
        longer = {}
        for order in orders:
            for i in wanted:
                if i not in order and may_leave(log, order, i):
                    longer[tuple(sorted([*order, i]))] = [*order, i]
        orders = list(longer.values())
    return orders[0] if orders else None
