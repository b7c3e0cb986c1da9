"""Facts to try everything on: tuples (log, gone, kept, longest, walls), always the same ones."""

import random

from markthenpurge.facts import Facts
from tests.small import log_of, logs_up_to, next_of, patterns, subsets


def facts_of(case):
    log, gone, kept, longest, walls = case
    return Facts(log, gone=gone, kept=kept, longest=longest, walls=walls)


def cases_of_small_logs():
    """All facts of all logs with at most three records."""
    for log in logs_up_to(3):
        positions = subsets(range(len(log)))
        for gone in positions:
            for kept in positions:
                for longest in [None] + list(range(1, len(log) + 1)):
                    for walls in subsets(range(1, len(log))):
                        yield (log, gone, kept, longest, walls)


def some_cases(many):
    """Some facts of logs with four to seven records."""
    chance = random.Random(7)
    words = {size: patterns(size) for size in range(4, 8)}
    for _ in range(many):
        size = chance.randint(4, 7)
        log = log_of(chance.choice(words[size]))
        gone = [i for i in range(size) if chance.random() < 0.15]
        kept = [i for i in range(size) if chance.random() < 0.2]
        longest = chance.choice([None, None] + list(range(1, size + 2)))
        walls = [w for w in range(1, size) if chance.random() < 0.12]
        yield (log, gone, kept, longest, walls)


def some_word(chance, size):
    letters = "abcdefgh"[:chance.randint(1, max(1, size // 2))]
    return "".join(chance.choice(letters) for _ in range(size))


def mostly_possible_cases(seed, many, sizes):
    """Some facts of which most have results; gone positions in any order, some of them twice."""
    chance = random.Random(seed)
    for _ in range(many):
        size = chance.choice(sizes)
        log = log_of(some_word(chance, size))
        share = chance.choice([0, 0.1, 0.3, 0.6])
        gone = [i for i in range(size) if next_of(log, i) is not None and chance.random() < share]
        kept = [i for i in range(size) if i not in gone and chance.random() < chance.choice([0, 0, 0.15])]
        longest = chance.choice([None, None, None] + list(range(2, size + 1)))
        walls = [w for w in range(1, size) if chance.random() < chance.choice([0, 0, 0.1])]
        gone = gone + [i for i in gone if chance.random() < 0.3]
        chance.shuffle(gone)
        yield (log, gone, kept, longest, walls)


def some_amounts(chance, size):
    """Prices or sizes for this many positions."""
    greatest = chance.choice([1, 3, 10, 10 ** 30])
    return [chance.choice([0, 1, chance.randint(0, greatest)]) for _ in range(size)]
