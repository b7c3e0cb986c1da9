"""Points 5 (b), 11, 12 and 13 against answers that are found by trying everything."""

import unittest

from markthenpurge.errors import NoResult
from markthenpurge.facts import conflict
from markthenpurge.ranges import apart, corners, fewest, levels, most, needing, ranges_in_few, shows_fewest, shows_most
from tests.cases import cases_of_small_logs, facts_of, mostly_possible_cases, some_cases
from tests.papers import are_pairwise_apart, bent_parts, shows_fewest_by_words, shows_most_by_words
from tests.search import allowed_by, corners_of, needs_of_results
from tests.small import logs_up_to, marks_of_all, next_of, subsets


class Whole(unittest.TestCase):
    def check(self, case):
        facts = facts_of(case)
        needs = needs_of_results(case)
        if not needs:
            self.check_conflict(facts)
            return
        low, high = min(needs.values()), max(needs.values())
        self.assertEqual((fewest(facts), most(facts)), (low, high))
        self.check_few(case, facts, low)
        self.assertTrue(shows_most_by_words(case, high, levels(facts)))
        for number in range(low, high + 1):
            self.assertEqual(needs[tuple(needing(facts, number))], number)

    def check_conflict(self, facts):
        calls = [fewest, ranges_in_few, apart, most, levels, lambda facts: needing(facts, 0)]
        for call in calls:
            with self.assertRaises(NoResult) as caught:
                call(facts)
            self.assertEqual(caught.exception.paper, conflict(facts))
        self.assertIs(shows_fewest(facts, 0, []), False)
        self.assertIs(shows_most(facts, len(facts), [(len(facts), len(facts))] * len(facts)), False)

    def check_few(self, case, facts, low):
        rows = ranges_in_few(facts)
        self.assertEqual(len(rows), low)
        self.assertEqual(rows, sorted(set(rows)))
        self.assertTrue(set(rows) <= set(allowed_by(case)))
        self.assertTrue(set(facts.gone) <= set(marks_of_all(facts.log, rows)))
        value = apart(facts)
        self.assertTrue(shows_fewest_by_words(case, low, value))
        self.assertTrue(are_pairwise_apart(case, value))

    def test_all_facts_of_small_logs(self):
        for case in cases_of_small_logs():
            self.check(case)

    def test_some_facts_of_longer_logs(self):
        for case in some_cases(500):
            self.check(case)
        for case in mostly_possible_cases(1, 1200, (4, 5, 6, 7, 8, 9)):
            self.check(case)


class Judges(unittest.TestCase):
    def test_all_position_lists(self):
        for case in mostly_possible_cases(2, 250, (2, 3, 4, 5, 6)):
            facts = facts_of(case)
            for value in subsets(range(len(facts))):
                for number in {len(value), 0}:
                    right = shows_fewest_by_words(case, number, value)
                    self.assertIs(shows_fewest(facts, number, value), right, (case, value))

    def test_bent_positions(self):
        for case in mostly_possible_cases(3, 150, (4, 5, 6, 7)):
            facts = facts_of(case)
            if conflict(facts) is None:
                for value in bent_parts(apart(facts)):
                    for number in (fewest(facts) - 1, fewest(facts), fewest(facts) + 1):
                        right = shows_fewest_by_words(case, number, value)
                        self.assertIs(shows_fewest(facts, number, value), right, (case, value))

    def test_bent_levels(self):
        for case in mostly_possible_cases(4, 40, (4, 5, 6, 7)):
            facts = facts_of(case)
            if conflict(facts) is None:
                self.assertIs(shows_most(facts, most(facts), levels(facts)), True)
                for top in (most(facts) - 1, most(facts)):
                    self.check_levels(case, facts, top, bent_parts(levels(facts)))

    def check_levels(self, case, facts, top, values):
        for value in values:
            self.assertIs(shows_most(facts, top, value), shows_most_by_words(case, top, value), (case, value))

    def test_many_levels(self):
        for case in mostly_possible_cases(5, 12, (3, 4)):
            facts = facts_of(case)
            rows = [[]]
            for _ in range(len(facts)):
                rows = [row + [(f, s)] for row in rows for f in range(3) for s in range(2)]
            self.check_levels(case, facts, 2, rows)


class Corners(unittest.TestCase):
    def test_all_positions_of_small_logs(self):
        for log in logs_up_to(5):
            others = [i for i in range(len(log)) if next_of(log, i) is not None]
            for positions in subsets(others):
                self.assertEqual(corners(log, positions[::-1] + positions), corners_of(log, positions))


if __name__ == "__main__":
    unittest.main()
