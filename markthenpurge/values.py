"""Values of reads: the results that keep them, the least of these, and derivations that show that there is none."""

from markthenpurge.checks import check_positions, is_integer_within, is_key, is_position, is_tuple_of
from markthenpurge.errors import InvalidRead, NoResult
from markthenpurge.facts import arc_inside, bar_of, may_go, nexts_of, shows_conflict
from markthenpurge.logs import check_log
from markthenpurge.ranges import flags_of


def is_read(value, many):
    """Whether the value is a read of a log with this many records."""
    return is_tuple_of(value, 2) and is_key(value[0]) and is_position(value[1], many)


def check_reads(reads, many):
    """Raise InvalidRead for all but a list of reads."""
    if not isinstance(reads, list) or not all([is_read(part, many) for part in reads]):
        raise InvalidRead("reads must be a list of tuples of a key and a position")


def newest_left(log, removed, key, place):
    """The newest position with this key at or before the place that is not removed, None if there is none."""
    for i in reversed(range(place + 1)):
        if log[i][0] == key and not removed[i]:
            return i
    return None


def value_left(log, removed, key, place):
    """The value of a read where these positions are removed."""
    i = newest_left(log, removed, key, place)
    return None if i is None else log[i][1]


def value_at(log, key, place):
    """The value of a read in the whole log."""
    check_log(log)
    if not is_read((key, place), len(log)):
        raise InvalidRead("a read must have a key and a position")
    return value_left(log, [False] * len(log), key, place)


def keeps_values(log, gone, reads):
    """Whether each read has the same value when the gone positions are removed."""
    check_log(log)
    check_positions(gone, len(log))
    check_reads(reads, len(log))
    removed = flags_of(gone, len(log))
    return all([value_left(log, removed, key, place) == value_at(log, key, place) for key, place in reads])


def name_and_rest(value):
    """The parts of a tuple that begins with a name; no name and nothing else for any other value."""
    if not isinstance(value, tuple) or len(value) == 0 or not isinstance(value[0], str):
        return "", []
    name, *rest = value
    return name, rest


class Derivation:
    """The positions that must go if some reads keep their values, as far as its steps name them."""

    def __init__(self, facts, reads):
        self._facts = facts
        self._log = facts.log
        self._nexts = nexts_of(facts)
        self._reads = list(reads)
        self._values = [value_at(self._log, key, place) for key, place in reads]
        self._named = [False] * len(facts)
        self._steps = []

    def steps(self):
        return list(self._steps)

    def positions(self):
        """The named positions."""
        return [i for i, named in enumerate(self._named) if named]

    def add_step(self, step):
        self._steps.append(step)
        self._named[step[-1]] = True

    def _add_inside(self, i):
        """Name what lies inside the arc of this position."""
        for j in range(i + 1, len(self._log)):
            if not self._named[j] and arc_inside(self._nexts, j, i):
                self.add_step(("inside", i, j))

    def _add_behind(self):
        """Name the answers of reads whose value is another one now."""
        for k, (key, place) in enumerate(self._reads):
            j = newest_left(self._log, self._named, key, place)
            if j is not None and self._log[j][1] != self._values[k]:
                self.add_step(("behind", k, j))

    def complete(self):
        """Name all positions that must go, none of them twice."""
        for i in self._facts.gone:
            self.add_step(("gone", i))
        done = 0
        while done < len(self._steps):
            self._add_inside(self._steps[done][-1])
            done += 1
            if done == len(self._steps):
                self._add_behind()

    def bar(self):
        """What bars the named positions, None if nothing does."""
        for i in self._facts.kept:
            if self._named[i]:
                return ("kept", i)
        for i in self.positions():
            # All positions inside of its arc are named, and not kept; so the bar is none of them.
            if not may_go(self._facts, i):
                return bar_of(self._facts, i)
        for k in range(len(self._reads)):
            if self._is_lost(k):
                return ("empty", k)
        return None

    def _is_lost(self, k):
        """Whether the read had a value, and all positions that could give it one are named."""
        key, place = self._reads[k]
        return self._values[k] is not None and newest_left(self._log, self._named, key, place) is None

    def _is_named(self, value):
        return is_position(value, len(self._named)) and self._named[value]

    def _is_index(self, value):
        return is_integer_within(value, 0, len(self._reads) - 1)

    def _is_behind(self, k, j):
        """Whether the value of read k cannot be that of position j, and only j is left to be its answer."""
        key, place = self._reads[k]
        if not is_integer_within(j, 0, place) or self._log[j][0] != key or self._log[j][1] == self._values[k]:
            return False
        return all([self._named[i] for i in range(j + 1, place + 1) if self._log[i][0] == key])

    def is_step(self, value):
        """Whether the value is a tuple that names a position."""
        name, rest = name_and_rest(value)
        if len(rest) == 1:
            return name == "gone" and is_position(rest[0], len(self._log)) and rest[0] in self._facts.gone
        if len(rest) != 2:
            return False
        i, j = rest
        if name == "inside":
            return self._is_named(i) and is_position(j, len(self._log)) and arc_inside(self._nexts, j, i)
        return name == "behind" and self._is_index(i) and self._is_behind(i, j)

    def is_bar(self, value):
        """Whether the value is a tuple that bars the named positions."""
        name, rest = name_and_rest(value)
        if name == "empty":
            return len(rest) == 1 and self._is_index(rest[0]) and self._is_lost(rest[0])
        if len(rest) == 0 or not self._is_named(rest[0]):
            return False
        if name == "kept":
            return len(rest) == 1 and rest[0] in self._facts.kept
        # The other bars are conflicts of facts in which the named position is gone; but inside is no bar here.
        return name != "inside" and shows_conflict(self._facts.plus(gone=[rest[0]]), value)


def least_keeping(facts, reads):
    """The least result that keeps the values of the reads."""
    check_reads(reads, len(facts))
    derivation = Derivation(facts, reads)
    derivation.complete()
    bar = derivation.bar()
    if bar is not None:
        raise NoResult([*derivation.steps(), bar])
    return derivation.positions()


def shows_lost(facts, reads, value):
    """Whether the value is a derivation that shows that no result keeps the values of the reads."""
    check_reads(reads, len(facts))
    if not isinstance(value, list) or len(value) == 0:
        return False
    derivation = Derivation(facts, reads)
    for step in value[:-1]:
        if not derivation.is_step(step):
            return False
        derivation.add_step(step)
    return derivation.is_bar(value[-1])
