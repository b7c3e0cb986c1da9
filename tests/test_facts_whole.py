"""Points 5 (a), 8, 9 and 10 against answers that are found by trying everything."""

import unittest

from markthenpurge.errors import NoResult
from markthenpurge.facts import Facts, allowed, conflict, greatest, is_result, least, reach, shows_conflict
from tests.cases import cases_of_small_logs, some_cases
from tests.small import all_conflicts, all_papers, all_ranges, all_results, is_allowed, logs_up_to, subsets


class Whole(unittest.TestCase):
    def check(self, log, gone, kept, longest, walls):
        facts = Facts(log, gone=gone, kept=kept, longest=longest, walls=walls)
        found = all_results(log, gone, kept, longest, walls)
        self.check_conflict(facts, found, all_conflicts(log, gone, kept, longest, walls))
        for value in subsets(range(len(log))):
            self.assertEqual(is_result(facts, value), value in found)
        for a, b in all_ranges(log):
            self.assertEqual(allowed(facts, a, b), is_allowed(log, kept, longest, walls, a, b))
        for a in range(len(log)):
            last = max(b for b in range(a, len(log)) if is_allowed(log, kept, longest, walls, a, b))
            self.assertEqual(reach(facts, a), last)

    def check_conflict(self, facts, found, barred):
        for value in all_papers(len(facts)):
            self.assertEqual(shows_conflict(facts, value), value in barred)
        if found:
            self.assertEqual(barred, [])
            self.assertIsNone(conflict(facts))
            self.assertEqual(least(facts), [i for i in found[0] if all(i in row for row in found)])
            self.assertEqual(greatest(facts), sorted({i for row in found for i in row}))
            self.assertIn(least(facts), found)
            self.assertIn(greatest(facts), found)
            return
        self.assertIn(conflict(facts), barred)
        for function in (least, greatest):
            with self.assertRaises(NoResult) as caught:
                function(facts)
            self.assertEqual(caught.exception.paper, conflict(facts))

    def test_all_facts_of_small_logs(self):
        for case in cases_of_small_logs():
            self.check(*case)

    def test_some_facts_of_longer_logs(self):
        for case in some_cases(1500):
            self.check(*case)


class Reads(unittest.TestCase):
    def test_seen_reads_leave_the_results_that_answer_them(self):
        for log in logs_up_to(4):
            found = all_results(log, [], [], None, [])
            for key in "abz":
                for place in range(len(log)):
                    answers = {remaining(log, row, key, place) for row in found}
                    for answer in answers:
                        facts = Facts(log).with_reads([(key, place, answer)])
                        right = [row for row in found if remaining(log, row, key, place) == answer]
                        self.assertEqual([row for row in found if is_result(facts, row)], right)

    def test_reads_that_no_result_answers_are_a_conflict(self):
        for log in logs_up_to(4):
            found = all_results(log, [], [], None, [])
            for place in range(len(log)):
                for answer in [None] + [i for i in range(place + 1) if log[i][0] == "a"]:
                    facts = Facts(log).with_reads([("a", place, answer)])
                    answers = {remaining(log, row, "a", place) for row in found}
                    self.assertEqual(conflict(facts) is None, answer in answers)


def remaining(log, gone, key, place):
    """The newest remaining position with this key at or before the place, None if there is none."""
    rows = [i for i in range(place + 1) if log[i][0] == key and i not in gone]
    return rows[-1] if rows else None


class LongLogs(unittest.TestCase):
    def test_a_log_of_200_records(self):
        log = [("abcdefg"[i * i % 7], i) for i in range(200)]
        facts = Facts(log, gone=list(range(0, 60, 3)), kept=list(range(120, 180, 7)), walls=[110, 199])
        self.assertIsNone(conflict(facts))
        self.assertIs(is_result(facts, least(facts)), True)
        self.assertIs(is_result(facts, greatest(facts)), True)
        for a in range(200):
            end = reach(facts, a)
            self.assertIs(allowed(facts, a, end), True)
            self.assertTrue(end == 199 or not allowed(facts, a, end + 1))


if __name__ == "__main__":
    unittest.main()
