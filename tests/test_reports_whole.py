"""Points 5 (e), 21, 22, 23 and 24 against answers that are found by listing all fillings."""

import random
import unittest
from math import gcd

from markthenpurge.errors import InvalidNumber, InvalidResult, NoResult
from markthenpurge.reports import agrees, chance, end_counts, fewest_others, filling_number, fillings, nth_filling
from markthenpurge.reports import possible, shows_none
from tests.cases import cases_of_small_logs, facts_of, mostly_possible_cases, some_cases
from tests.fillings import agrees_by_words, all_agreeing, all_papers_of_reports, all_reports, choices_by_words
from tests.fillings import low_high, marking_counts, shows_none_by_words, some_reports
from tests.papers import bent_parts
from tests.search import allowed_by
from tests.small import all_conflicts, all_papers


def cases_with_reports(seed, cases, most_reports, most_others):
    chance_of = random.Random(seed)
    for case in cases:
        many = chance_of.randint(0, most_reports)
        others = chance_of.randint(0, most_others)
        log = case[0]
        if log:
            yield case, some_reports(chance_of, log, many), others
        else:
            yield case, [], 0


def least_others_by_words(case, rows):
    """The fewest others with which some filling agrees, None if there is no such number."""
    # One range for each gone position is enough, if there is any way.
    for others in range(len(set(case[1])) + 1):
        if all_agreeing(case, rows, others):
            return others
    return None


class Whole(unittest.TestCase):
    def check(self, case, rows, others):
        facts = facts_of(case)
        right = all_agreeing(case, rows, others)
        self.assertEqual(fillings(facts, rows, others=others), len(right))
        name, told = possible(facts, rows, others=others)
        self.assertEqual(name, "filling" if right else "none")
        if right:
            self.assertIn(told, right)
            self.assertIs(agrees(facts, rows, told, others=others), True)
        else:
            self.assertTrue(shows_none_by_words(case, rows, others, told))
            self.assertIs(shows_none(facts, rows, told, others=others), True)
        for index, report in enumerate(rows):
            self.check_ends(facts, rows, others, right, index, report)
        for i, marking in enumerate(marking_counts(case[0], right)):
            self.check_chance(case, facts, rows, others, right, i, marking)
        return right

    def check_ends(self, facts, rows, others, right, index, report):
        found = end_counts(facts, rows, index, others=others)
        self.assertTrue(all(type(pair) is tuple for pair in found))
        sides = [side for side in (0, 1) if type(report[side]) is tuple]
        if not sides:
            self.assertEqual(found, [])
            return
        values = [row[index][sides[0]] for row in right]
        low, high = low_high(report[sides[0]])
        self.assertEqual(found, [(value, values.count(value)) for value in range(low, high + 1)])

    def check_chance(self, case, facts, rows, others, right, i, marking):
        if not right:
            with self.assertRaises(NoResult) as caught:
                chance(facts, rows, i, others=others)
            self.assertTrue(shows_none_by_words(case, rows, others, caught.exception.paper))
            return
        top, bottom = chance(facts, rows, i, others=others)
        self.assertEqual((top * len(right), gcd(top, bottom)), (bottom * marking, 1))
        self.assertGreaterEqual(bottom, 1)

    def check_numbers(self, case, rows, others, right):
        facts = facts_of(case)
        for number, value in enumerate(right):
            self.assertEqual(nth_filling(facts, rows, number, others=others), value)
            self.assertEqual(filling_number(facts, rows, value, others=others), number)
        for number in (-1, len(right)):
            with self.assertRaises(InvalidNumber):
                nth_filling(facts, rows, number, others=others)

    def check_others(self, case, rows):
        facts = facts_of(case)
        right = least_others_by_words(case, rows)
        if right is not None:
            self.assertEqual(fewest_others(facts, rows), right)
            return
        with self.assertRaises(NoResult) as caught:
            fewest_others(facts, rows)
        paper = caught.exception.paper
        self.assertTrue(shows_none_by_words(case, rows, 0, paper))
        self.assertTrue(paper[0] != "apart")
        # It bars all fillings, however many others there are.
        self.assertTrue(shows_none_by_words(case, rows, 99, paper))

    def test_small_logs(self):
        cases = [case for case in cases_of_small_logs() if len(case[0]) < 3]
        for case in cases:
            reports = all_reports(case[0])
            lists = [[]] + [[one] for one in reports] + [[one, other] for one in reports for other in reports[::4]]
            for rows in lists:
                for others in (0, 1) if case[0] else (0,):
                    right = self.check(case, rows, others)
                    self.check_numbers(case, rows, others, right)
                self.check_others(case, rows)

    def test_some_facts_of_small_logs(self):
        for case, rows, others in cases_with_reports(61, list(cases_of_small_logs())[::3], 3, 2):
            right = self.check(case, rows, others)
            self.check_numbers(case, rows, others, right)
            self.check_others(case, rows)

    def test_some_facts_of_longer_logs(self):
        cases = list(some_cases(200)) + list(mostly_possible_cases(62, 1500, (4, 5, 6, 7)))
        for case, rows, others in cases_with_reports(63, cases, 3, 1):
            self.check(case, rows, others)
        for case, rows, others in cases_with_reports(64, list(mostly_possible_cases(65, 400, (4, 5, 6))), 1, 2):
            self.check(case, rows, others)

    def test_numbers_of_fillings(self):
        for case, rows, others in cases_with_reports(66, list(mostly_possible_cases(67, 200, (3, 4, 5))), 3, 1):
            right = all_agreeing(case, rows, others)
            if len(right) < 60:
                self.check_numbers(case, rows, others, right)

    def test_fewest_others(self):
        cases = [case for case in mostly_possible_cases(68, 1500, (3, 4, 5, 6)) if len(set(case[1])) < 3]
        for case, rows, _ in cases_with_reports(69, cases, 3, 0):
            self.check_others(case, rows)


class Papers(unittest.TestCase):
    def test_never_both(self):
        for case, rows, others in cases_with_reports(71, list(mostly_possible_cases(72, 800, (2, 3, 4))), 2, 1):
            facts = facts_of(case)
            papers = all_papers_of_reports(case[0], rows, others) + all_papers(len(facts))
            shown = [paper for paper in papers if shows_none(facts, rows, paper, others=others)]
            right = [paper for paper in papers if shows_none_by_words(case, rows, others, paper)]
            self.assertEqual(shown, right)
            self.assertEqual(shown == [], all_agreeing(case, rows, others) != [])
            self.assertTrue(set(all_conflicts(*case)) <= {paper for paper in shown if paper[0] not in ("apart",)})

    def test_bent_papers(self):
        for case, rows, others in cases_with_reports(73, list(mostly_possible_cases(74, 500, (4, 5, 6, 7))), 2, 1):
            facts = facts_of(case)
            name, told = possible(facts, rows, others=others)
            for value in bent_parts(told):
                if name == "none":
                    found = shows_none(facts, rows, value, others=others)
                    self.assertIs(found, shows_none_by_words(case, rows, others, value), (case, value))
                else:
                    found = agrees(facts, rows, value, others=others)
                    self.assertIs(found, agrees_by_words(case, rows, others, value), (case, value))

    def test_all_lists_of_ranges(self):
        for case, rows, others in cases_with_reports(75, list(mostly_possible_cases(76, 300, (2, 3, 4))), 1, 1):
            facts = facts_of(case)
            ranges = [(a, b) for a in range(len(facts)) for b in range(a, len(facts))]
            for value in [[]] + [[one] for one in ranges] + [[one, other] for one in ranges for other in ranges]:
                right = agrees_by_words(case, rows, others, value)
                self.assertIs(agrees(facts, rows, value, others=others), right)
                if not right:
                    with self.assertRaises(InvalidResult):
                        filling_number(facts, rows, value, others=others)


class Choices(unittest.TestCase):
    def test_reports_of_small_logs(self):
        for case in mostly_possible_cases(77, 100, (1, 2, 3, 4)):
            facts = facts_of(case)
            if case[1]:
                continue
            for report in all_reports(case[0]):
                right = [row for row in choices_by_words(case[0], report) if row in allowed_by(case)]
                self.assertEqual(fillings(facts, [report]), len(right))


if __name__ == "__main__":
    unittest.main()
