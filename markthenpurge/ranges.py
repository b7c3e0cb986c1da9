"""Fewest and most ranges: how many ranges the results of facts need, and the papers that show it."""

from markthenpurge.checks import check_positions, is_integer, is_integer_from, is_integer_within, is_position_list
from markthenpurge.checks import is_tuple_of
from markthenpurge.errors import InvalidNumber, InvalidPosition
from markthenpurge.facts import check_results, conflict, ends_of, ends_without, greatest, least, marked_by_arcs
from markthenpurge.facts import nexts_of
from markthenpurge.logs import check_log, next_list, positions_marked


def outermost(nexts, positions):
    """Those of these positions, none of them newest, whose arcs lie inside no other arc of them."""
    found = []
    end = -1
    for i in sorted(set(positions)):
        # An arc around this one begins ahead of it, so it was seen already.
        if nexts[i] > end:
            found.append(i)
            end = nexts[i]
    return found


def ranges_from_left(nexts, ends, positions):
    """Fewest ranges (a, b) with b at most ends[a] that mark these positions; each begins at a corner."""
    found = []
    for corner in outermost(nexts, positions):
        later = nexts[corner]
        if found and later <= ends[found[-1][0]]:
            found[-1] = (found[-1][0], later)
        else:
            found.append((corner, later))
    return found


def ranges_of_result(facts, result):
    """Fewest ranges that keep the rules and mark exactly this result, from the left."""
    inside = set(result)
    others = [i for i in range(len(facts)) if i not in inside]
    return ranges_from_left(nexts_of(facts), ends_without(facts, others), result)


def corners(log, positions):
    """The corners of positions that are not newest."""
    check_log(log)
    check_positions(positions, len(log))
    nexts = next_list(log)
    if not all([nexts[i] is not None for i in positions]):
        raise InvalidPosition("a newest position has no arc")
    return outermost(nexts, positions)


def fewest(facts):
    """The fewest allowed ranges that mark all gone positions."""
    return len(ranges_in_few(facts))


def ranges_in_few(facts):
    """Fewest allowed ranges that mark all gone positions."""
    check_results(facts)
    return ranges_from_left(nexts_of(facts), ends_of(facts), facts.gone)


def apart(facts):
    """Gone positions of which any two are apart, as many as the fewest ranges."""
    # A range begins at the first corner that the one before it could not take.
    return [a for a, _ in ranges_in_few(facts)]


def are_apart(facts, value):
    """Whether the value is a list of gone positions that ascend and are apart, whether there is a conflict or not."""
    if not is_position_list(value, len(facts)):
        return False
    nexts = nexts_of(facts)
    gone = facts.gone
    if not all([i in gone and nexts[i] is not None for i in value]):
        return False
    ends = ends_of(facts)
    return all([nexts[i] < nexts[j] and nexts[j] > ends[i] for i, j in zip(value, value[1:])])


def shows_fewest(facts, number, value):
    """Whether the value shows that at least this number of ranges is needed."""
    if conflict(facts) is not None or not is_integer(number):
        return False
    return are_apart(facts, value) and len(value) == number


def flags_of(positions, many):
    """For each position whether it is one of these."""
    flags = [False] * many
    for i in positions:
        flags[i] = True
    return flags


def going_of(facts):
    """For each position whether it may be gone."""
    return flags_of(greatest(facts), len(facts))


def staying_of(facts):
    """For each position whether it may remain."""
    must = flags_of(least(facts), len(facts))
    return [later is not None and not must[i] for i, later in enumerate(nexts_of(facts))]


def ascents(nexts):
    """All tuples (i, j) of positions that ascend, by ascending j."""
    arcs_ahead = [(i, later) for i, later in enumerate(nexts) if later is not None]
    return [(i, j) for j, end in arcs_ahead for i, later in arcs_ahead if i < j and later < end]


def longer(first, second):
    return second if len(second) > len(first) else first


def chains_of(facts):
    """For each position two longest lists of positions that one result can have and needs a range for each of them.

    Between two neighbours of a list, a position remains that ascends from the one and to the other, or the range over
    both breaks the rules. The first list ends with the position itself; the second one ends ahead of it, while the
    position remains. A list is empty where its position may not be gone, or may not remain.
    """
    nexts = nexts_of(facts)
    ends = ends_without(facts, [])
    going = going_of(facts)
    staying = staying_of(facts)
    ended = [[i] if going[i] else [] for i in range(len(nexts))]
    ahead = [[] for _ in nexts]
    for i, j in ascents(nexts):
        if staying[j]:
            ahead[j] = longer(ahead[j], ended[i])
        if going[j]:
            ended[j] = longer(ended[j], ahead[i] + [j])
            if nexts[j] > ends[i]:
                ended[j] = longer(ended[j], ended[i] + [j])
    return ended, ahead


def longest_chain_of(facts):
    ended, _ = chains_of(facts)
    return max(ended, key=len, default=[])


def most(facts):
    """The greatest number of ranges that a result of the facts needs."""
    return len(longest_chain_of(facts))


def levels(facts):
    """Levels that show that no result needs more ranges than the most."""
    ended, ahead = chains_of(facts)
    return [(len(one), len(other)) for one, other in zip(ended, ahead)]


def are_levels(value, many):
    """Whether the value is a list with a tuple of two integers from 0 on for each position."""
    if not isinstance(value, list) or len(value) != many:
        return False
    return all([is_tuple_of(pair, 2) and all([is_integer_from(part, 0) for part in pair]) for pair in value])


def levels_rise(facts, value):
    """Whether the levels are as the point asks for along all positions that ascend."""
    nexts = nexts_of(facts)
    ends = ends_without(facts, [])
    going = going_of(facts)
    staying = staying_of(facts)
    for i, j in ascents(nexts):
        if going[i] and staying[j] and value[j][1] < value[i][0]:
            return False
        if staying[i] and going[j] and value[j][0] < value[i][1] + 1:
            return False
        if going[i] and going[j] and nexts[j] > ends[i] and value[j][0] < value[i][0] + 1:
            return False
    return True


def shows_most(facts, top, value):
    """Whether the value is levels that show that no result needs more than top ranges."""
    if conflict(facts) is not None or not is_integer(top) or not are_levels(value, len(facts)):
        return False
    if not all([1 <= value[j][0] <= top for j in greatest(facts)]):
        return False
    return levels_rise(facts, value)


def results_up_to(facts, result):
    """Results from the least one to this one, each with at most one position more than the one before it."""
    must = flags_of(least(facts), len(facts))
    # Arcs inside of an arc do not begin ahead of it, so from the right on each list is a result.
    return [[i for i in result if i >= first or must[i]] for first in reversed(range(len(facts) + 1))]


def needing(facts, number):
    """A result of the facts that needs this number of ranges."""
    check_results(facts)
    if not is_integer_within(number, fewest(facts), most(facts)):
        raise InvalidNumber("number must be an integer from the fewest to the most ranges that a result needs")
    low = positions_marked(nexts_of(facts), ranges_in_few(facts))
    high = marked_by_arcs(facts, [*facts.gone, *longest_chain_of(facts)])
    # One position more or less changes the number of ranges by at most 1, so no number between is left out.
    path = results_up_to(facts, low)[::-1] + results_up_to(facts, high)
    found = [row for row in path if len(ranges_of_result(facts, row)) == number]
    return found[0]
