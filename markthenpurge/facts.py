"""Facts: a log with rules and with what is known to be gone and to be kept."""

from markthenpurge.checks import check_positions, is_integer_from, is_integer_within, is_key, is_list_or_tuple
from markthenpurge.checks import is_position, is_position_list, is_range, is_tuple_of
from markthenpurge.errors import InvalidPosition, InvalidRange, InvalidRead, InvalidRules, NoResult
from markthenpurge.logs import check_log, next_list, positions_marked


def check_rules(longest, walls, many):
    """Raise InvalidRules if these are no rules of a log with this many records."""
    if longest is not None and not is_integer_from(longest, 1):
        raise InvalidRules("longest must be None or an integer from 1 on")
    if not is_list_or_tuple(walls) or not all([is_integer_within(wall, 1, many - 1) for wall in walls]):
        raise InvalidRules("walls must be a list or tuple of integers from 1 to n - 1")


def is_seen_read(value, log):
    """Whether the value is a read with an answer that the log can give."""
    if not is_tuple_of(value, 3) or not is_key(value[0]) or not is_position(value[1], len(log)):
        return False
    key, place, answer = value
    if answer is None:
        return True
    return is_integer_within(answer, 0, place) and log[answer][0] == key


def check_seen_reads(reads, log):
    """Raise InvalidRead for all but a list of seen reads of the log."""
    if not isinstance(reads, list) or not all([is_seen_read(read, log) for read in reads]):
        raise InvalidRead("reads must be a list of tuples of a key, a position and an answer")


def last_allowed(nexts, kept, longest, walls):
    """For each position a the greatest b for which (a, b) is allowed."""
    many = len(nexts)
    ends = [many - 1] * many
    if longest is not None:
        ends = [min(many - 1, a + longest - 1) for a in range(many)]
    for wall in walls:
        ends[wall - 1] = wall - 1
    for j in kept:
        if nexts[j] is not None:
            ends[j] = min(ends[j], nexts[j] - 1)
    # What bars a range bars each range around it, so every end bounds those of the positions ahead.
    for a in reversed(range(many - 1)):
        ends[a] = min(ends[a], ends[a + 1])
    return ends


class Facts:
    """A log, rules, and the positions that are known to be gone and to be kept."""

    def __init__(self, log, *, gone=(), kept=(), longest=None, walls=()):
        check_log(log)
        check_positions(gone, len(log))
        check_positions(kept, len(log))
        check_rules(longest, walls, len(log))
        self._log = [(key, value) for key, value in log]
        self._gone = sorted(set(gone))
        self._kept = sorted(set(kept))
        self._longest = longest
        self._walls = sorted(set(walls))
        # What the functions below look up again and again is worked out once.
        self._nexts = next_list(self._log)
        self._ends = last_allowed(self._nexts, self._kept, longest, self._walls)

    @property
    def log(self):
        return list(self._log)

    @property
    def gone(self):
        return list(self._gone)

    @property
    def kept(self):
        return list(self._kept)

    @property
    def longest(self):
        return self._longest

    @property
    def walls(self):
        return list(self._walls)

    def __len__(self):
        return len(self._log)

    def __eq__(self, other):
        return (
            isinstance(other, Facts)
            and self._log == other._log
            and self._gone == other._gone
            and self._kept == other._kept
            and self._longest == other._longest
            and self._walls == other._walls
        )

    def plus(self, *, gone=(), kept=()):
        """These facts with more gone and kept positions."""
        check_positions(gone, len(self._log))
        check_positions(kept, len(self._log))
        more_gone = [*self._gone, *gone]
        more_kept = [*self._kept, *kept]
        return Facts(self._log, gone=more_gone, kept=more_kept, longest=self._longest, walls=self._walls)

    def exact(self, gone):
        """Facts of the same log and rules in which just these positions are gone and all others kept."""
        check_positions(gone, len(self._log))
        others = [i for i in range(len(self._log)) if i not in gone]
        return Facts(self._log, gone=gone, kept=others, longest=self._longest, walls=self._walls)

    def with_reads(self, reads):
        """These facts with what the seen reads say."""
        check_seen_reads(reads, self._log)
        gone = []
        kept = []
        for key, place, answer in reads:
            first = 0
            if answer is not None:
                kept.append(answer)
                first = answer + 1
            gone.extend([i for i in range(first, place + 1) if self._log[i][0] == key])
        return self.plus(gone=gone, kept=kept)


def nexts_of(facts):
    """For each position the first later one with its key, None if it is newest."""
    return list(facts._nexts)


def ends_of(facts):
    """For each position a the greatest b for which (a, b) is allowed."""
    return list(facts._ends)


def ends_without(facts, positions):
    """For each position a the greatest b for which (a, b) keeps the rules and marks none of these positions."""
    return last_allowed(facts._nexts, positions, facts._longest, facts._walls)


def arc_inside(nexts, j, i):
    """Whether both positions have arcs and the one of j lies inside the one of i."""
    if nexts[j] is None or nexts[i] is None:
        return False
    return i <= j and nexts[j] <= nexts[i]


def may_go(facts, i):
    """Whether the arc of the position is an allowed range; only then some result can have it."""
    later = facts._nexts[i]
    return later is not None and later <= facts._ends[i]


def bar_of(facts, i):
    """The conflict over a gone position that may not go."""
    later = facts._nexts[i]
    if later is None:
        return ("newest", i)
    if facts._longest is not None and later - i + 1 > facts._longest:
        return ("long", i)
    for wall in facts._walls:
        if i < wall <= later:
            return ("wall", i, wall)
    inner = [j for j in facts._kept if arc_inside(facts._nexts, j, i)]
    return ("inside", inner[0], i)


def conflict(facts):
    """A conflict of the facts, or None if they have results."""
    for i in facts._gone:
        if not may_go(facts, i):
            return bar_of(facts, i)
    return None


def newest_bars(facts, i):
    return i in facts._gone and facts._nexts[i] is None


def long_bars(facts, i):
    later = facts._nexts[i]
    if i not in facts._gone or later is None or facts._longest is None:
        return False
    return later - i + 1 > facts._longest


def wall_bars(facts, i, wall):
    later = facts._nexts[i]
    if i not in facts._gone or later is None or wall not in facts._walls:
        return False
    return i < wall <= later


def inside_bars(facts, j, i):
    return j in facts._kept and i in facts._gone and arc_inside(facts._nexts, j, i)


def shows_conflict(facts, value):
    """Whether the value is a conflict of the facts."""
    if not isinstance(value, tuple) or not 2 <= len(value) <= 3 or not isinstance(value[0], str):
        return False
    name, *numbers = value
    if not all([is_position(number, len(facts)) for number in numbers]):
        return False
    if len(numbers) == 1:
        if name == "newest":
            return newest_bars(facts, numbers[0])
        return name == "long" and long_bars(facts, numbers[0])
    if name == "wall":
        return wall_bars(facts, numbers[0], numbers[1])
    return name == "inside" and inside_bars(facts, numbers[0], numbers[1])


def marked_by_arcs(facts, positions):
    """The positions whose arcs lie inside the arc of one of these, none of them newest."""
    nexts = facts._nexts
    return positions_marked(nexts, [(i, nexts[i]) for i in positions])


def is_result(facts, value):
    """Whether the value is a result of the facts."""
    if not is_position_list(value, len(facts)):
        return False
    if not all([i in value for i in facts._gone]):
        return False
    if not all([may_go(facts, i) for i in value]):
        return False
    return marked_by_arcs(facts, value) == value


def check_results(facts):
    """Raise NoResult if the facts have a conflict."""
    bar = conflict(facts)
    if bar is not None:
        raise NoResult(bar)


def least(facts):
    """The result that lies in all others."""
    check_results(facts)
    return marked_by_arcs(facts, facts._gone)


def greatest(facts):
    """The result that has all others in it."""
    check_results(facts)
    return [i for i in range(len(facts)) if may_go(facts, i)]


def allowed(facts, a, b):
    """Whether (a, b) is an allowed range."""
    if not is_range(a, b, len(facts)):
        raise InvalidRange("a range must have 0 <= a <= b <= n - 1")
    return b <= facts._ends[a]


def reach(facts, a):
    """The greatest b for which (a, b) is an allowed range."""
    if not is_position(a, len(facts)):
        raise InvalidPosition("a position must be an integer from 0 to n - 1")
    return facts._ends[a]
