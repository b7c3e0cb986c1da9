"""Which gone positions wait for which others, and the earliest and the latest rounds that follow from it."""

from markthenpurge.checks import is_position
from markthenpurge.counting import befores_of
from markthenpurge.errors import NoPlan
from markthenpurge.facts import arc_inside
from markthenpurge.logs import next_list
from markthenpurge.ranges import flags_of, outermost


class Waits:
    """The gone positions of a log with their bounds, and for which of them each one waits."""

    def __init__(self, log, gone, bounds):
        self._log = list(log)
        self._nexts = next_list(log)
        self._befores = befores_of(self._nexts)
        self._gone = sorted(set(gone))
        self._flags = flags_of(self._gone, len(log))
        self._stays = self._find_stays()
        self._lows = {i: 1 for i in self._gone}
        self._highs = {}
        for i, low, high in bounds:
            self._lows[i] = max(self._lows[i], low)
            if high is not None:
                self._highs[i] = min(self._highs.get(i, high), high)

    def _find_stays(self):
        """For each position the greatest earlier one of its key that is not gone, -1 if there is none."""
        found = []
        for before in self._befores:
            if before is None:
                found.append(-1)
            else:
                found.append(found[before] if self._flags[before] else before)
        return found

    def gone_positions(self):
        return list(self._gone)

    def nexts(self):
        return list(self._nexts)

    def low(self, p):
        """The greatest low of the bounds of the position, 1 if there is none."""
        return self._lows[p]

    def high(self, p):
        """The least high of the bounds of the position, None if there is none."""
        return self._highs.get(p)

    def step(self, p, q):
        """What a step from p to q counts, None if p does not wait for q; both are gone."""
        later = self._nexts[p]
        if later is not None and p < q < later and p < self._stays[q]:
            return 1
        if q == self._befores[p] or q != p and arc_inside(self._nexts, q, p):
            return 0
        return None

    def bar(self):
        """A gone position that is newest, or a pair, None if there is neither."""
        for i in self._gone:
            later = self._nexts[i]
            if later is None:
                return ("newest", i)
            for q in range(i + 1, later):
                if not self._flags[q] and self._stays[q] > i:
                    return ("pair", i, self._stays[q], q)
        return None

    def is_gone(self, value):
        return is_position(value, len(self._log)) and self._flags[value]

    def is_kept(self, value):
        return is_position(value, len(self._log)) and not self._flags[value]

    def is_newest(self, i):
        return self.is_gone(i) and self._nexts[i] is None

    def is_pair(self, i, p, q):
        """Whether the gone position i has p and q, which stay and have the same key, ahead of its next."""
        if not self.is_gone(i) or not self.is_kept(p) or not self.is_kept(q) or self._nexts[i] is None:
            return False
        return i < p < q < self._nexts[i] and self._log[p][0] == self._log[q][0]

    def is_chain(self, value):
        """Whether the value is a list of gone positions, one or more, in which each one waits for the next one."""
        if not isinstance(value, list) or len(value) == 0 or not all([self.is_gone(p) for p in value]):
            return False
        return not any([self.step(p, q) is None for p, q in zip(value, value[1:])])

    def counted(self, chain):
        """What the steps of the chain count together."""
        return sum([self.step(p, q) for p, q in zip(chain, chain[1:])])

    def least_round(self, chain):
        return self.counted(chain) + self.low(chain[-1])


def in_order(steps):
    """The positions, each one behind all for which it waits; those that wait for a circle are left out."""
    missing = {p: len(rows) for p, rows in steps.items()}
    waiting = {p: [] for p in steps}
    for p, rows in steps.items():
        for q, _ in rows:
            waiting[q].append(p)
    found = [p for p in steps if missing[p] == 0]
    done = 0
    while done < len(found):
        ready = found[done]
        for p in waiting[ready]:
            missing[p] = missing[p] - 1
            if missing[p] == 0:
                found.append(p)
        done += 1
    return found


class Schedule:
    """The earliest rounds of the gone positions, as far as no circle bars them."""

    def __init__(self, waits):
        self._waits = waits
        gone = waits.gone_positions()
        self._steps = {p: [(q, waits.step(p, q)) for q in gone if waits.step(p, q) is not None] for p in gone}
        self._order = in_order(self._steps)
        self._earliest = {}
        # The position for which one waits longest, None if nothing but the own bounds holds it back.
        self._ahead = {}
        for p in self._order:
            self._earliest[p] = waits.low(p)
            self._ahead[p] = None
            for q, number in self._steps[p]:
                if self._earliest[q] + number > self._earliest[p]:
                    self._earliest[p] = self._earliest[q] + number
                    self._ahead[p] = q

    def _chain_from(self, p):
        """A chain of which the earliest round of the position is the least round."""
        chain = []
        at = p
        while at is not None:
            chain.append(at)
            at = self._ahead[at]
        return chain

    def _circle(self):
        """A circle, the empty list if there is none."""
        left = [p for p in self._steps if p not in self._order]
        if left == []:
            return []
        # Steps that count 0 lead to arcs that end earlier, so each circle has a step that counts 1.
        chain = left[:1]
        while chain[-1] not in chain[:-1]:
            last = chain[-1]
            ahead = [q for q, _ in self._steps[last] if q in left]
            chain.append(ahead[0])
        return chain[chain.index(chain[-1]):]

    def bar(self):
        """The paper that bars a steady plan, None if there is one."""
        bar = self._waits.bar()
        if bar is not None:
            return bar
        circle = self._circle()
        if circle != []:
            return ("circle", circle)
        for p in self._order:
            high = self._waits.high(p)
            if high is not None and high < self._earliest[p]:
                return ("late", self._chain_from(p))
        return None

    def check(self):
        """Raise NoPlan if there is no plan."""
        bar = self.bar()
        if bar is not None:
            raise NoPlan(bar)

    def fewest(self):
        return max(list(self._earliest.values()), default=0)

    def longest_chain(self):
        """A chain that shows the fewest rounds, the empty list if nothing is gone."""
        last = [p for p in self._order if self._earliest[p] == self.fewest()]
        return self._chain_from(last[0]) if last else []

    def plan(self):
        """The fewest rounds, each position in its earliest one."""
        nexts = self._waits.nexts()
        rows = [[p for p in self._order if self._earliest[p] == at] for at in range(1, self.fewest() + 1)]
        # When a position goes, its next one stands, and arcs inside of its arc have gone or go with it.
        return [[(p, nexts[p]) for p in outermost(nexts, row)] for row in rows]

    def windows(self, many):
        """For each position its earliest and its latest one of so many rounds."""
        latest = {}
        for p in self._order:
            high = self._waits.high(p)
            latest[p] = many if high is None else min(many, high)
        for p in reversed(self._order):
            for q, number in self._steps[p]:
                latest[q] = min(latest[q], latest[p] - number)
        return [(p, self._earliest[p], latest[p]) for p in self._waits.gone_positions()]
