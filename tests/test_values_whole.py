"""Points 5 (h) and 33 against all results that keep the values of some reads."""

import random
import unittest

from markthenpurge.errors import NoResult
from markthenpurge.values import keeps_values, least_keeping, shows_lost, value_at
from tests.cases import cases_of_small_logs, facts_of, mostly_possible_cases, some_cases
from tests.papers import bent_parts
from tests.reads import all_steps, keeps_by_words, positions_named, results_that_keep, shows_lost_by_words
from tests.reads import value_by_words
from tests.small import subsets


def cases_with_reads(seed, cases, most):
    """The cases with other values in their logs, and some reads."""
    chance = random.Random(seed)
    for log, gone, kept, longest, walls in cases:
        values = chance.choice([[0, 1], [0, 1, None], [0, 0, 0, 1, None], [None, 1]])
        log = [(key, chance.choice(values)) for key, _ in log]
        reads = []
        for _ in range(chance.randint(0, most) if log else 0):
            key = chance.choice([key for key, _ in log] * 3 + ["other"])
            reads.append((key, chance.randrange(len(log))))
        yield (log, gone, kept, longest, walls), reads


class Whole(unittest.TestCase):
    def check(self, case, reads):
        facts = facts_of(case)
        right = results_that_keep(case, reads)
        if right:
            found = least_keeping(facts, reads)
            self.assertIn(found, right)
            self.assertTrue(all(set(found) <= set(row) for row in right))
            return
        with self.assertRaises(NoResult) as caught:
            least_keeping(facts, reads)
        paper = caught.exception.paper
        self.assertTrue(shows_lost_by_words(case, reads, paper), paper)
        self.assertIs(shows_lost(facts, reads, paper), True)
        named = positions_named(case, reads, paper)
        self.assertEqual(len(named), len(set(named)))

    def test_all_facts_of_small_logs(self):
        for case, reads in cases_with_reads(111, cases_of_small_logs(), 3):
            self.check(case, reads)

    def test_some_facts_of_longer_logs(self):
        for case, reads in cases_with_reads(112, list(some_cases(800)), 4):
            self.check(case, reads)
        for case, reads in cases_with_reads(113, list(mostly_possible_cases(114, 3000, (4, 5, 6, 7, 8))), 4):
            self.check(case, reads)

    def test_values_that_are_kept(self):
        for case, reads in cases_with_reads(115, list(mostly_possible_cases(116, 200, (1, 2, 3, 4, 5))), 3):
            log = case[0]
            for gone in subsets(range(len(log))):
                self.assertIs(keeps_values(log, gone, reads), keeps_by_words(log, gone, reads))
            for key in ("a", "b", "other"):
                for place in range(len(log)):
                    self.assertEqual(value_at(log, key, place), value_by_words(log, [], key, place))

    def test_two_results_that_keep_values(self):
        for case, reads in cases_with_reads(117, list(mostly_possible_cases(118, 150, (3, 4, 5, 6))), 3):
            right = results_that_keep(case, reads)
            for one in right:
                for other in right:
                    self.assertIn([i for i in one if i in other], right)


class Derivations(unittest.TestCase):
    def test_never_both(self):
        chance = random.Random(119)
        cases = list(mostly_possible_cases(121, 200, (2, 3, 4, 5))) + list(cases_of_small_logs())[::12]
        shown = 0
        for case, reads in cases_with_reads(120, cases, 3):
            facts = facts_of(case)
            steps = all_steps(len(case[0]), len(reads), case[4])
            possible = results_that_keep(case, reads) != []
            for _ in range(6):
                value = self.drawn(chance, case, reads, steps)
                right = shows_lost_by_words(case, reads, value)
                self.assertIs(shows_lost(facts, reads, value), right, (case, reads, value))
                self.assertFalse(right and possible)
                shown += right
        self.assertGreater(shown, 1000)

    def drawn(self, chance, case, reads, steps):
        """Some tuples of which the most name a position where they stand."""
        value = []
        for _ in range(chance.randint(0, 5)):
            right = [step for step in steps if self.names(case, reads, value + [step])]
            value.append(chance.choice(right) if right and chance.random() < 0.95 else chance.choice(steps))
        right = [step for step in steps if shows_lost_by_words(case, reads, value + [step])]
        return value + [chance.choice(right or steps)]

    def names(self, case, reads, value):
        named = positions_named(case, reads, value + [None])
        return all(type(i) is int for i in named)

    def test_bent_ones(self):
        cases = list(some_cases(300)) + list(mostly_possible_cases(123, 300, (4, 5, 6)))
        for case, reads in cases_with_reads(122, cases, 3):
            if results_that_keep(case, reads):
                continue
            facts = facts_of(case)
            with self.assertRaises(NoResult) as caught:
                least_keeping(facts, reads)
            if len(caught.exception.paper) < 6:
                for value in bent_parts(caught.exception.paper):
                    right = shows_lost_by_words(case, reads, value)
                    self.assertIs(shows_lost(facts, reads, value), right, (case, reads, value))


if __name__ == "__main__":
    unittest.main()
