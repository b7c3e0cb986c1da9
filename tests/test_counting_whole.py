"""Points 5 (d), 17, 18, 19 and 20 against answers that are found by trying everything."""

import unittest

from markthenpurge.counting import blocks, certain, counts, nth, number_of, sets_by_size
from markthenpurge.errors import InvalidNumber, InvalidResult, NoResult
from markthenpurge.facts import conflict
from tests.cases import cases_of_small_logs, facts_of, mostly_possible_cases, some_cases
from tests.papers import are_pairwise_apart, shows_fewest_by_words
from tests.search import blocks_of, needs_of_results, results_in_order, sets_by_listing, sets_by_unions
from tests.small import marks_of_all, subsets


class Whole(unittest.TestCase):
    def check(self, case):
        facts = facts_of(case)
        needs = needs_of_results(case)
        numbers = [list(needs.values()).count(number) for number in range(max(needs.values(), default=-1) + 1)]
        self.assertEqual(counts(facts), numbers)
        in_order = results_in_order(case)
        for number, value in enumerate(in_order):
            self.assertEqual(nth(facts, number), value)
            self.assertEqual(number_of(facts, value), number)
            found = blocks(facts, value)
            self.assertEqual(found, blocks_of(case, value))
            self.assertEqual(len(found), needs[tuple(value)])
            self.assertEqual(marks_of_all(facts.log, found), value)
        for number in (-1, len(in_order)):
            with self.assertRaises(InvalidNumber):
                nth(facts, number)
        for many in range(len(numbers) + 2):
            self.check_certain(case, facts, needs, many)

    def check_certain(self, case, facts, needs, many):
        left = [row for row, number in needs.items() if number <= many]
        if left:
            always = [i for i in range(len(facts)) if all(i in row for row in left)]
            never = [i for i in range(len(facts)) if not any(i in row for row in left)]
            self.assertEqual(certain(facts, many), (always, never))
            return
        with self.assertRaises(NoResult) as caught:
            certain(facts, many)
        paper = caught.exception.paper
        if not needs:
            self.assertEqual(paper, conflict(facts))
            return
        self.assertEqual((type(paper), len(paper), paper[0]), (tuple, 2, "apart"))
        self.assertTrue(shows_fewest_by_words(case, many + 1, paper[1]))
        self.assertTrue(are_pairwise_apart(case, paper[1]))

    def test_all_facts_of_small_logs(self):
        for case in cases_of_small_logs():
            self.check(case)

    def test_some_facts_of_longer_logs(self):
        for case in some_cases(150):
            self.check(case)
        for case in mostly_possible_cases(41, 350, (4, 5, 6, 7, 8, 9)):
            self.check(case)

    def test_no_other_position_lists_have_blocks(self):
        for case in mostly_possible_cases(42, 60, (2, 3, 4, 5)):
            facts = facts_of(case)
            results = results_in_order(case)
            for value in subsets(range(len(facts))):
                if value not in results:
                    for function in (blocks, number_of):
                        with self.assertRaises(InvalidResult):
                            function(facts, value)


class Sets(unittest.TestCase):
    def test_all_facts_of_small_logs(self):
        for case in cases_of_small_logs():
            self.assertEqual(sets_by_size(facts_of(case), 7), sets_by_unions(case, 7))

    def test_each_set_of_ranges(self):
        for case in mostly_possible_cases(51, 60, (3, 4, 5)):
            right = sets_by_listing(case, 3)
            self.assertEqual(sets_by_size(facts_of(case), 3), right)
            self.assertEqual(sets_by_unions(case, 3), right)

    def test_some_facts_of_longer_logs(self):
        for case in list(some_cases(150)) + list(mostly_possible_cases(52, 300, (4, 5, 6, 7, 8))):
            for most in (0, 1, 8):
                self.assertEqual(sets_by_size(facts_of(case), most), sets_by_unions(case, most))


if __name__ == "__main__":
    unittest.main()
