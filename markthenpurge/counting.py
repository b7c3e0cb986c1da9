"""Counting: how many results need how many ranges, their numbers, and what is certain of them."""

from math import comb

from markthenpurge.checks import is_integer_from, is_integer_within
from markthenpurge.errors import InvalidNumber, InvalidResult, NoResult
from markthenpurge.facts import check_results, conflict, ends_of, ends_without, is_result, nexts_of
from markthenpurge.logs import positions_marked
from markthenpurge.ranges import apart, fewest, ranges_of_result


def befores_of(nexts):
    """For each position the one whose next it is, None if there is none."""
    found = [None] * len(nexts)
    for i, later in enumerate(nexts):
        if later is not None:
            found[later] = i
    return found


def tight_lasts(nexts, ends):
    """For each position a the ascending list of all b for which (a, b) is tight and b is at most ends[a]."""
    befores = befores_of(nexts)
    found = [[] for _ in nexts]
    for a, later in enumerate(nexts):
        if later is not None:
            found[a] = [b for b in range(later, ends[a] + 1) if befores[b] is not None and befores[b] >= a]
    return found


class BlockLists:
    """The lists of blocks of all results of facts without a conflict, counted by length and first position."""

    def __init__(self, facts):
        self._nexts = nexts_of(facts)
        self._befores = befores_of(self._nexts)
        self._gone = facts.gone
        self._many = len(facts)
        self._lasts = tight_lasts(self._nexts, ends_of(facts))
        rule_ends = ends_without(facts, [])
        self._ahead = [[self._lasts_ahead(rule_ends, a, c) for c in range(self._many)] for a in range(self._many)]
        self._closing = [self._lasts_closing(a) for a in range(self._many)]
        self._counted = self._count()

    def _gone_end(self, a, c):
        """The greatest end of an arc of a gone position from a to c - 1, 0 if there is none."""
        return max([self._nexts[i] for i in self._gone if a <= i < c], default=0)

    def _lasts_ahead(self, rule_ends, a, c):
        """All b for which a block (a, b) may stand ahead of a block that begins at c."""
        later = self._nexts[c]
        if c <= a or later is None:
            return []
        # A gone position ahead of c is marked by this block or by none.
        low = self._gone_end(a, c)
        high = later - 1
        if later <= rule_ends[a]:
            # Only a position that remains keeps the block from the corner c: its arc ends behind b, ahead of next(c).
            arc_ends = [end for end in self._nexts[a:c] if end is not None and end < later]
            high = max(arc_ends, default=0) - 1
        return [b for b in self._lasts[a] if low <= b <= high and self._befores[b] < c]

    def _lasts_closing(self, a):
        """All b for which a block (a, b) may be the last one."""
        low = self._gone_end(a, self._many)
        return [b for b in self._lasts[a] if b >= low]

    def _count(self):
        """For each position a, by length: the lists whose first block begins at a, if it may be the first one."""
        found = [[0] * (self._many + 1) for _ in range(self._many)]
        for a in reversed(range(self._many)):
            found[a][1] = len(self._closing[a])
            for c in range(a + 1, self._many):
                ways = len(self._ahead[a][c])
                if ways > 0:
                    for length in range(1, self._many):
                        found[a][length + 1] += ways * found[c][length]
        return found

    def _firsts(self):
        """The positions at which the first block may begin."""
        return [a for a in range(self._many) if self._gone_end(0, a) == 0]

    def _firsts_behind(self, a, b):
        """The positions at which a block may begin that follows the block (a, b)."""
        return [c for c in range(a + 1, self._many) if b in self._ahead[a][c]]

    def _number_behind(self, a, b, length):
        """The number of lists of this length that may follow the block (a, b)."""
        if length == 0:
            return 1 if b in self._closing[a] else 0
        return sum([self._counted[c][length] for c in self._firsts_behind(a, b)])

    def counts_by_length(self):
        """The numbers of lists by their length, the last of them not 0."""
        found = [1 if self._gone == [] else 0]
        for length in range(1, self._many + 1):
            found.append(sum([self._counted[a][length] for a in self._firsts()]))
        while found[-1] == 0:
            found.pop()
        return found

    def list_at(self, length, number):
        """The list of this length that has this number among them."""
        found = []
        firsts = self._firsts()
        for behind in reversed(range(length)):
            a, number = share_of(firsts, [self._counted[c][behind + 1] for c in firsts], number)
            lasts = self._lasts[a]
            b, number = share_of(lasts, [self._number_behind(a, d, behind) for d in lasts], number)
            found.append((a, b))
            firsts = self._firsts_behind(a, b)
        return found

    def number_in_length(self, rows):
        """The number of this list among those of its length."""
        number = 0
        firsts = self._firsts()
        for index, (a, b) in enumerate(rows):
            behind = len(rows) - index - 1
            number += sum([self._counted[c][behind + 1] for c in firsts if c < a])
            number += sum([self._number_behind(a, d, behind) for d in self._lasts[a] if d < b])
            firsts = self._firsts_behind(a, b)
        return number


def share_of(options, shares, number):
    """The option in whose share the number falls, if each one has its share of the numbers, and the number in it."""
    index = 0
    while number >= shares[index]:
        number = number - shares[index]
        index += 1
    return options[index], number


def counts(facts):
    """How many results of the facts need 0, 1, 2 .. ranges."""
    if conflict(facts) is not None:
        return []
    return BlockLists(facts).counts_by_length()


def blocks(facts, value):
    """The blocks of a result."""
    if not is_result(facts, value):
        raise InvalidResult("value must be a result of the facts")
    return ranges_of_result(facts, value)


def nth(facts, number):
    """The result with this number."""
    if conflict(facts) is not None:
        raise InvalidNumber("there is no result")
    lists = BlockLists(facts)
    numbers = lists.counts_by_length()
    if not is_integer_within(number, 0, sum(numbers) - 1):
        raise InvalidNumber("there is no result with this number")
    length, left = share_of(list(range(len(numbers))), numbers, number)
    return positions_marked(nexts_of(facts), lists.list_at(length, left))


def number_of(facts, value):
    """The number of a result."""
    rows = blocks(facts, value)
    lists = BlockLists(facts)
    return sum(lists.counts_by_length()[:len(rows)]) + lists.number_in_length(rows)


def needs_more(facts, many):
    """Whether no result of the facts needs at most many ranges."""
    return conflict(facts) is not None or fewest(facts) > many


def certain(facts, many):
    """The positions that are in all, and those that are in none of the results that need at most many ranges."""
    if not is_integer_from(many, 0):
        raise InvalidNumber("many must be an integer from 0 on")
    check_results(facts)
    if fewest(facts) > many:
        # The first many + 1 of them are apart, too, and show that many ranges are not enough.
        raise NoResult(("apart", apart(facts)[:many + 1]))
    positions = range(len(facts))
    always = [i for i in positions if needs_more(facts.plus(kept=[i]), many)]
    never = [i for i in positions if needs_more(facts.plus(gone=[i]), many)]
    return always, never


def ways_to_add(row, options):
    """By size, the ways to add some of so many options to one of the sets that the row counts by size."""
    added = [comb(options, more) for more in range(len(row))]
    return [sum([added[more] * row[size - more] for more in range(size + 1)]) for size in range(len(row))]


def with_ranges_from(table, a, end):
    """The table behind a further left end a, of which the ranges up to (a, end) are allowed."""
    found = []
    shorter = [0] * len(table[0])
    for far, row in enumerate(table):
        # Ranges that do not reach farther leave a set in its row. All of them are allowed, since no reach ahead of a
        # is farther than that of a.
        counted = ways_to_add(row, max(0, far - a))
        if a < far <= end + 1:
            # The range (a, far - 1) brings sets from shorter rows to this one, with shorter ranges beside it or not.
            brought = ways_to_add(shorter, far - 1 - a)
            counted = [one + other for one, other in zip(counted, [0] + brought)]
        found.append(counted)
        shorter = [one + other for one, other in zip(shorter, row)]
    return found


def sets_by_size(facts, most):
    """For each size up to most the number of sets of so many allowed ranges that mark all gone positions."""
    if not is_integer_from(most, 0):
        raise InvalidNumber("most must be an integer from 0 on")
    if conflict(facts) is not None:
        return [0] * (most + 1)
    nexts = nexts_of(facts)
    gone = facts.gone
    # A set stands in the row of the position behind all its ranges, the empty set in row 0; each row counts by size.
    table = [[0] * (most + 1) for _ in range(len(facts) + 1)]
    table[0][0] = 1
    for a, end in enumerate(ends_of(facts)):
        table = with_ranges_from(table, a, end)
        if a in gone:
            # Ranges with greater left ends do not mark a.
            table = [row if far > nexts[a] else [0] * (most + 1) for far, row in enumerate(table)]
    return [sum([row[size] for row in table]) for size in range(most + 1)]
