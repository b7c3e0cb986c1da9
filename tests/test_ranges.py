"""Points 11, 12 and 13 and the interface of ranges.py, on chosen logs."""

import inspect
import unittest

from markthenpurge import ranges
from markthenpurge.errors import InvalidLog, InvalidNumber, InvalidPosition, NoResult
from markthenpurge.facts import Facts, allowed, conflict, greatest, is_result
from markthenpurge.ranges import apart, corners, fewest, levels, most, needing, ranges_in_few, shows_fewest, shows_most
from tests.cases import facts_of
from tests.papers import are_pairwise_apart, bent_parts, shows_fewest_by_words, shows_most_by_words
from tests.small import log_of, marks_of_all
from tests.wrong import values_of_every_kind, wrong_integers, wrong_logs, wrong_positions

# Arcs (0, 3), (1, 2), (2, 5), (4, 6), (6, 7).
LOG = log_of("abbacbcc")
WITH_CONFLICT = [
    Facts(LOG, gone=[0, 7]), Facts(LOG, gone=[0, 1], longest=3), Facts(LOG, gone=[0], walls=[2]),
    Facts(LOG, gone=[0, 4], kept=[1]), Facts(log_of("ab"), gone=[0]),
]


class Interface(unittest.TestCase):
    def test_names_and_parameters(self):
        names = {
            "corners": ["log", "positions"], "fewest": ["facts"], "ranges_in_few": ["facts"], "apart": ["facts"],
            "shows_fewest": ["facts", "number", "value"], "most": ["facts"], "levels": ["facts"],
            "shows_most": ["facts", "top", "value"], "needing": ["facts", "number"],
        }
        for name, parameters in names.items():
            function = getattr(ranges, name)
            self.assertEqual(list(inspect.signature(function).parameters), parameters)
            self.assertEqual(function.__module__, "markthenpurge.ranges")

    def test_all_arguments_by_name(self):
        facts = Facts(LOG, gone=[0])
        self.assertEqual(corners(log=LOG, positions=[0, 1]), [0])
        self.assertEqual(fewest(facts=facts), 1)
        self.assertEqual(ranges_in_few(facts=facts), [(0, 3)])
        self.assertEqual(apart(facts=facts), [0])
        self.assertIs(shows_fewest(facts=facts, number=1, value=[0]), True)
        self.assertIs(shows_most(facts=facts, top=most(facts=facts), value=levels(facts=facts)), True)
        self.assertEqual(needing(facts=Facts(LOG, gone=[0], kept=[2, 4, 6]), number=1), [0, 1])


class Corners(unittest.TestCase):
    def test_those_inside_no_other_arc(self):
        self.assertEqual(corners(LOG, [0, 1, 2, 4, 6]), [0, 2, 4, 6])
        self.assertEqual(corners(LOG, [1, 4]), [1, 4])
        self.assertEqual(corners(LOG, [1, 2, 4]), [1, 2, 4])
        self.assertEqual(corners(log_of("abcddcba"), [0, 1, 2, 3]), [0])
        self.assertEqual(corners(log_of("abcddcba"), [3, 2]), [2])
        self.assertEqual(corners(log_of("aaaa"), [0, 1, 2]), [0, 1, 2])

    def test_an_arc_that_ends_where_another_one_begins_lies_in_none(self):
        self.assertEqual(corners(log_of("aabb"), [0, 2]), [0, 2])
        self.assertEqual(corners(log_of("abcacb"), [0, 2]), [0, 2])

    def test_in_any_order_and_twice(self):
        for value in [[6, 1, 0, 1, 6], (6, 1, 0, 1, 6), (1, 0, 0, 6)]:
            self.assertEqual(corners(LOG, value), [0, 6])

    def test_none(self):
        self.assertEqual([corners([], []), corners([], ()), corners(LOG, ()), corners(LOG, [])], [[]] * 4)

    def test_wrong_values(self):
        for value in wrong_logs():
            with self.assertRaises(InvalidLog):
                corners(value, None)
        for value in wrong_positions(8) + [[3], [0, 5], (7,), [0, 7, 7]]:
            with self.assertRaises(InvalidPosition):
                corners(LOG, value)
        for value in [[0], (0,), None]:
            with self.assertRaises(InvalidPosition):
                corners([], value)

    def test_the_positions_stay_as_they_were(self):
        value = [6, 1, 0, 1]
        corners(LOG, value).append(9)
        self.assertEqual((value, corners(LOG, value)), ([6, 1, 0, 1], [0, 6]))


class Fewest(unittest.TestCase):
    def check(self, facts, number):
        self.assertEqual(fewest(facts), number)
        rows = ranges_in_few(facts)
        self.assertEqual(len(rows), number)
        self.assertEqual(rows, sorted(rows))
        self.assertTrue(all(type(row) is tuple and allowed(facts, *row) for row in rows))
        self.assertTrue(set(facts.gone) <= set(marks_of_all(facts.log, rows)))
        value = apart(facts)
        self.assertEqual(len(value), number)
        self.assertIs(shows_fewest(facts, number, value), True)
        self.assertTrue(are_pairwise_apart((facts.log, facts.gone, facts.kept, facts.longest, facts.walls), value))

    def test_without_rules_one_range_is_enough(self):
        self.check(Facts(LOG, gone=[0, 1, 2, 4, 6]), 1)
        self.check(Facts(LOG, gone=[1]), 1)

    def test_nothing_gone(self):
        for facts in [Facts([]), Facts(LOG), Facts(LOG, kept=[0, 1], longest=1, walls=[4])]:
            self.check(facts, 0)
            self.assertEqual((ranges_in_few(facts), apart(facts)), ([], []))

    def test_with_rules_and_kept_positions(self):
        gone = [0, 2, 4, 6]
        self.check(Facts(LOG, gone=gone, longest=8), 1)
        self.check(Facts(LOG, gone=gone, longest=7), 2)
        self.check(Facts(LOG, gone=gone, longest=6), 2)
        self.check(Facts(LOG, gone=gone, longest=4), 3)
        self.check(Facts(LOG, gone=[4, 6, 0, 4], walls=[4]), 2)
        self.check(Facts(LOG, gone=[0, 4, 6], kept=[2]), 2)
        self.check(Facts(LOG, gone=[0, 6], kept=[4]), 2)
        self.check(Facts(log_of("aaaaa"), gone=[0, 1, 2, 3], longest=2), 4)
        self.check(Facts(log_of("aaaaa"), gone=[0, 3], kept=[1, 2]), 2)
        self.check(Facts(log_of("aaaaa"), gone=[0, 2], kept=[1, 3]), 2)

    def test_inner_positions_need_no_range_of_their_own(self):
        self.check(Facts(log_of("abcddcba"), gone=[0, 1, 2, 3], longest=8), 1)
        self.check(Facts(log_of("abcddcba"), gone=[3, 1, 3]), 1)

    def test_conflicts(self):
        for facts in WITH_CONFLICT:
            for function in (fewest, ranges_in_few, apart, most, levels):
                with self.assertRaises(NoResult) as caught:
                    function(facts)
                self.assertEqual(caught.exception.paper, conflict(facts))
            for number, value in [(0, []), (1, [0]), (1, [1])]:
                self.assertIs(shows_fewest(facts, number, value), False)

    def test_what_is_returned_is_a_copy(self):
        facts = Facts(LOG, gone=[0, 2, 4, 6], longest=4)
        first = [ranges_in_few(facts), apart(facts), levels(facts), needing(facts, 3)]
        for rows in [ranges_in_few(facts), apart(facts), levels(facts), needing(facts, 3)]:
            rows.reverse()
            rows.append(9)
        self.assertEqual([ranges_in_few(facts), apart(facts), levels(facts), needing(facts, 3)], first)
        self.assertTrue(facts == Facts(LOG, gone=[0, 2, 4, 6], longest=4))


class ShowsFewest(unittest.TestCase):
    CASE = (LOG, [0, 1, 2, 6], [4], None, [])

    def test_any_such_list_shows_its_own_number(self):
        facts = facts_of(self.CASE)
        for value in [[], [0], [1], [6], [0, 6], [1, 6], [2, 6]]:
            self.assertIs(shows_fewest(facts, len(value), value), True)
            self.assertIs(shows_fewest(facts, len(value) + 1, value), False)
            self.assertIs(shows_fewest(facts, len(value) - 1, value), False)

    def test_lists_that_show_nothing(self):
        facts = facts_of(self.CASE)
        rows = [[4], [3], [7], [0, 2], [1, 2], [0, 1], [0, 4], [6, 0], [0, 0], [0, 2, 6], [0, 6, 6], [-8], [8], [0, 7]]
        for value in rows:
            self.assertIs(shows_fewest(facts, len(value), value), False)

    def test_arcs_inside_of_one_another_do_not_ascend(self):
        facts = Facts(log_of("abba"), gone=[0, 1], longest=4, walls=[])
        self.assertIs(shows_fewest(facts, 2, [0, 1]), False)

    def test_any_value(self):
        facts = facts_of(self.CASE)
        for value in values_of_every_kind():
            if type(value) is not list or len(value) == 1 and type(value[0]) is not int:
                for number in (0, 1, 2):
                    self.assertIs(shows_fewest(facts, number, value), False)
        for number in values_of_every_kind():
            self.assertIs(shows_fewest(facts, number, []), type(number) is int and number == 0)
            self.assertIs(shows_fewest(facts, number, [0]), type(number) is int and number == 1)
        self.assertIs(shows_fewest(facts, 1.0, [0]), False)
        self.assertIs(shows_fewest(facts, 2, (0, 6)), False)
        self.assertIs(shows_fewest(facts, 2, [False, 6]), False)

    def test_the_list_is_judged_by_itself_where_no_conflict_is_asked_for(self):
        facts = Facts(LOG, gone=[0, 6, 7], kept=[4])
        self.assertIs(ranges.are_apart(facts, [0, 6]), True)
        self.assertIs(ranges.are_apart(facts, [7]), False)
        facts = Facts(log_of("abba"), gone=[0, 1], kept=[1])
        self.assertIs(ranges.are_apart(facts, [0]), True)
        self.assertIs(ranges.are_apart(facts, [0, 1]), False)

    def test_bent_ones(self):
        facts = facts_of(self.CASE)
        for number in (1, 2, 3):
            for value in bent_parts([0, 6]):
                found = shows_fewest(facts, number, value)
                self.assertIs(found, shows_fewest_by_words(self.CASE, number, value), value)


class Most(unittest.TestCase):
    def check(self, facts, number):
        self.assertEqual(most(facts), number)
        value = levels(facts)
        self.assertIs(type(value), list)
        self.assertEqual(len(value), len(facts))
        self.assertTrue(all(type(pair) is tuple and len(pair) == 2 for pair in value))
        self.assertTrue(all(type(part) is int and part >= 0 for pair in value for part in pair))
        self.assertIs(shows_most(facts, number, value), True)
        self.assertIs(shows_most(facts, number + 1, value), True)
        if number > 0:
            self.assertIs(shows_most(facts, number - 1, value), False)

    def test_the_most_ranges(self):
        self.check(Facts(log_of("aaaa")), 2)
        self.check(Facts(log_of("aaaaaa")), 3)
        self.check(Facts(log_of("ababab")), 2)
        self.check(Facts(log_of("abba")), 1)
        self.check(Facts(log_of("xyxzyx")), 2)

    def test_what_is_known_bounds_them(self):
        log = log_of("aaaaaa")
        self.check(Facts(log, kept=[0]), 2)
        self.check(Facts(log, kept=[1]), 3)
        self.check(Facts(log, gone=[1]), 2)
        self.check(Facts(log, gone=[0, 1, 2, 3, 4]), 1)
        self.check(Facts(log, gone=[0, 2, 4], kept=[1, 3]), 3)
        self.check(Facts(log, longest=2), 5)
        self.check(Facts(log, longest=3), 3)
        self.check(Facts(log, walls=[3]), 2)
        self.check(Facts(log, longest=4, walls=[5]), 2)
        self.check(Facts(log, walls=[1, 2, 3, 4, 5]), 0)

    def test_nothing_may_be_gone(self):
        for facts in [Facts([]), Facts(LOG[:1]), Facts(log_of("abc")), Facts(LOG, longest=1)]:
            self.check(facts, 0)
            self.assertEqual(needing(facts, 0), [])
        self.assertEqual(levels(Facts([])), [])

    def test_levels_of_a_log_of_one_key(self):
        facts = Facts(log_of("aaaa"))
        for value in [[(1, 0), (1, 1), (2, 1), (0, 0)], [(2, 0), (1, 2), (2, 9), (5, 5)]]:
            self.assertIs(shows_most(facts, 2, value), shows_most_by_words((facts.log, [], [], None, []), 2, value))
        self.assertIs(shows_most(facts, 2, [(1, 0), (1, 1), (2, 1), (0, 0)]), True)
        self.assertIs(shows_most(facts, 1, [(1, 0), (1, 1), (1, 1), (0, 0)]), False)

    def test_top_is_any_integer(self):
        facts = Facts(log_of("aaaa"))
        self.assertIs(shows_most(facts, 10 ** 40, levels(facts)), True)
        self.assertIs(shows_most(facts, 10 ** 40, [(1, 0), (1, 1), (10 ** 30, 10 ** 29), (0, 0)]), True)
        self.assertIs(shows_most(facts, -1, levels(facts)), False)
        # Where no position may be gone, the conditions ask nothing of top.
        self.assertIs(shows_most(Facts([]), -1, []), True)
        self.assertIs(shows_most(Facts(log_of("abc")), -5, [(0, 0), (3, 4), (0, 0)]), True)

    def test_any_value(self):
        facts = Facts(log_of("aa"))
        self.assertIs(shows_most(facts, 1, [(1, 0), (0, 0)]), True)
        for value in values_of_every_kind():
            self.assertIs(shows_most(facts, 1, value), False)
            self.assertIs(shows_most(facts, 1, [(1, 0), value]), False)
            self.assertIs(shows_most(facts, 1, [value, (0, 0)]), False)
            self.assertIs(shows_most(facts, 1, [(1, value), (0, 0)]), type(value) is int and value >= 0)
            self.assertIs(shows_most(facts, 1, [(1, 0), (value, 0)]), type(value) is int and value >= 0)
            self.assertIs(shows_most(facts, value, [(1, 0), (0, 0)]), type(value) is int and value >= 1)
            self.assertIs(shows_most(Facts([]), 0, value), type(value) is list and len(value) == 0)
        for value in [[[1, 0], (0, 0)], ((1, 0), (0, 0)), [(1, 0)], [(1, 0), (0, 0), (0, 0)], [(1, 0, 0), (0, 0)]]:
            self.assertIs(shows_most(facts, 1, value), False)

    def test_bent_ones(self):
        for case in [(log_of("aaaa"), [], [], None, []), (log_of("abcabac"), [1], [3], 5, [5]), (LOG, [4], [], 6, [])]:
            facts = facts_of(case)
            for top in (most(facts) - 1, most(facts), most(facts) + 1):
                for value in bent_parts(levels(facts)):
                    self.assertIs(shows_most(facts, top, value), shows_most_by_words(case, top, value), (top, value))

    def test_no_levels_with_a_conflict(self):
        for facts in WITH_CONFLICT:
            for value in [[], [(0, 0)] * len(facts), [(1, 1)] * len(facts), [(5, 5)] * len(facts)]:
                self.assertIs(shows_most(facts, 9, value), False)


class Needing(unittest.TestCase):
    def test_each_number_between(self):
        for facts in [Facts(log_of("aaaaaa")), Facts(LOG, gone=[0, 6], longest=5), Facts(log_of("abab"), gone=[1])]:
            for number in range(fewest(facts), most(facts) + 1):
                value = needing(facts, number)
                self.assertIs(is_result(facts, value), True)
                self.assertEqual(fewest(facts.exact(value)), number)

    def test_numbers_that_no_result_needs(self):
        facts = Facts(log_of("aaaaaaaa"), gone=[0, 3], kept=[1])
        self.assertEqual((fewest(facts), most(facts)), (2, 3))
        for number in wrong_integers(2, 3) + [2.0]:
            with self.assertRaises(InvalidNumber):
                needing(facts, number)
        for number in [-1, 1, True, False, None]:
            with self.assertRaises(InvalidNumber):
                needing(Facts([]), number)

    def test_a_conflict_comes_ahead_of_the_number(self):
        for facts in WITH_CONFLICT:
            for number in [None, True, -1, 0, 1, 10 ** 40]:
                with self.assertRaises(NoResult) as caught:
                    needing(facts, number)
                self.assertEqual(caught.exception.paper, conflict(facts))


class LongLogs(unittest.TestCase):
    def check(self, facts):
        self.assertIs(shows_fewest(facts, fewest(facts), apart(facts)), True)
        rows = ranges_in_few(facts)
        self.assertEqual(len(rows), fewest(facts))
        self.assertTrue(set(facts.gone) <= set(marks_of_all(facts.log, rows)))
        self.assertIs(shows_most(facts, most(facts), levels(facts)), True)
        self.assertIs(shows_most(facts, most(facts) - 1, levels(facts)), False)
        for number in (fewest(facts), (fewest(facts) + most(facts)) // 2, most(facts)):
            value = needing(facts, number)
            self.assertIs(is_result(facts, value), True)
            self.assertEqual(fewest(facts.exact(value)), number)

    def test_logs_of_200_records(self):
        self.check(Facts(log_of("a" * 200)))
        self.assertEqual(most(Facts(log_of("a" * 200))), 100)
        self.check(Facts(log_of("ab" * 100), gone=list(range(0, 190, 7)), longest=12))
        known = Facts(log_of("abcdefgh" * 25), kept=[4, 100, 151], walls=[34, 35])
        self.check(known.plus(gone=greatest(known)[::9]))
        self.check(Facts(log_of("".join("abcdefghij"[i * i % 10] for i in range(200))), gone=[3, 150], walls=[80]))
        nested = "abcdefghijklmnopqrstuvwxyz"
        self.check(Facts(log_of((nested + nested[::-1]) * 3 + "a" * 44), gone=[0, 60, 157, 170]))


if __name__ == "__main__":
    unittest.main()
