"""Points 14, 15 and 16 and the interface of prices.py, on chosen logs."""

import inspect
import unittest

from markthenpurge import prices
from markthenpurge.errors import InvalidLog, InvalidNumber, InvalidPrice, InvalidRange, NoResult
from markthenpurge.facts import Facts, conflict
from markthenpurge.prices import cheapest, fewest_of, freed_paper, freeing, idle, least_price, most_freed, potentials
from markthenpurge.prices import price_list, shows_fewest_of, shows_freed, shows_price, spread
from markthenpurge.ranges import fewest
from tests.cases import facts_of
from tests.papers import bent_parts, shows_fewest_of_by_words, shows_freed_by_words, shows_price_by_words
from tests.small import log_of, marks_of_all
from tests.wrong import values_of_every_kind, wrong_amounts, wrong_logs, wrong_ranges

LOG = log_of("aacbb")
CASE = (LOG, [0, 3], [], None, [])
PRICES = [1, 1, 10, 1, 1]
SIZES = [4, 9, 9, 3, 9]
WITH_CONFLICT = [Facts(LOG, gone=[4]), Facts(LOG, gone=[0], kept=[0]), Facts(LOG, gone=[3], longest=1)]


def answers(facts, amounts, fee, many):
    """What all functions of prices and sizes return."""
    return [
        least_price(facts, amounts, fee), cheapest(facts, amounts, fee), price_list(facts, amounts, fee),
        potentials(facts, amounts, fee), most_freed(facts, amounts, many), freeing(facts, amounts, many),
        freed_paper(facts, amounts, many),
    ]


class Interface(unittest.TestCase):
    def test_names_and_parameters(self):
        names = {
            "least_price": ["facts", "prices", "fee"], "cheapest": ["facts", "prices", "fee"],
            "price_list": ["facts", "prices", "fee"], "potentials": ["facts", "prices", "fee"],
            "shows_price": ["facts", "prices", "fee", "price", "value"],
            "most_freed": ["facts", "sizes", "many"], "freeing": ["facts", "sizes", "many"],
            "freed_paper": ["facts", "sizes", "many"], "shows_freed": ["facts", "sizes", "many", "most", "value"],
            "fewest_of": ["log", "ranges"], "spread": ["log", "ranges"], "idle": ["log", "ranges"],
            "shows_fewest_of": ["log", "ranges", "number", "value"],
        }
        for name, parameters in names.items():
            function = getattr(prices, name)
            self.assertEqual(list(inspect.signature(function).parameters), parameters)
            self.assertEqual(function.__module__, "markthenpurge.prices")

    def test_all_arguments_by_name(self):
        facts = facts_of(CASE)
        self.assertEqual(least_price(facts=facts, prices=PRICES, fee=3), 10)
        self.assertEqual(cheapest(facts=facts, prices=PRICES, fee=3), [(0, 1), (3, 4)])
        self.assertEqual(price_list(facts=facts, prices=PRICES, fee=3), [17, 10])
        self.assertEqual(potentials(facts=facts, prices=PRICES, fee=3), [0, 5, 10])
        self.assertIs(shows_price(facts=facts, prices=PRICES, fee=3, price=10, value=[0, 5, 10]), True)
        self.assertEqual(most_freed(facts=facts, sizes=SIZES, many=1), 7)
        self.assertEqual(freeing(facts=facts, sizes=SIZES, many=1), [(0, 4)])
        paper = freed_paper(facts=facts, sizes=SIZES, many=1)
        self.assertIs(shows_freed(facts=facts, sizes=SIZES, many=1, most=7, value=paper), True)
        self.assertEqual(fewest_of(log=LOG, ranges=[(0, 1), (0, 4)]), [1])
        self.assertEqual(len(spread(log=LOG, ranges=[(0, 1), (3, 4)])), 2)
        self.assertIs(shows_fewest_of(log=LOG, ranges=[(0, 1), (3, 4)], number=2, value=[0, 3]), True)
        self.assertEqual(idle(log=LOG, ranges=[(0, 1), (0, 4)]), [0])


class Prices(unittest.TestCase):
    def test_one_range_or_two(self):
        facts = facts_of(CASE)
        self.assertEqual((least_price(facts, PRICES, 13), price_list(facts, PRICES, 13)), (27, [27, 27]))
        self.assertEqual(cheapest(facts, PRICES, 13), [(0, 4)])
        self.assertEqual((least_price(facts, PRICES, 9), price_list(facts, PRICES, 9)), (22, [23, 22]))
        self.assertEqual((least_price(facts, [0] * 5, 0), price_list(facts, [0] * 5, 0)), (0, [0, 0]))
        self.assertEqual((least_price(facts, [1] * 5, 0), price_list(facts, [1] * 5, 0)), (4, [5, 4]))

    def test_positions_of_several_ranges_are_paid_several_times(self):
        facts = Facts(log_of("abab"), gone=[0, 1], longest=3)
        self.assertEqual(cheapest(facts, [1, 10, 100, 1000], 5), [(0, 2), (1, 3)])
        self.assertEqual(least_price(facts, [1, 10, 100, 1000], 5), 111 + 1110 + 10)
        self.assertEqual(price_list(facts, [1, 10, 100, 1000], 5), [1231])

    def test_nothing_gone(self):
        for facts in [Facts([]), Facts(LOG), Facts(LOG, kept=[0], longest=1)]:
            amounts = [7] * len(facts)
            self.assertEqual((least_price(facts, amounts, 5), cheapest(facts, amounts, 5)), (0, []))
            self.assertEqual((price_list(facts, amounts, 5), potentials(facts, amounts, 5)), ([0], [0]))
            self.assertIs(shows_price(facts, amounts, 5, 0, [0]), True)
            for price, value in [(1, [0]), (1, [1]), (0, []), (0, [0, 0]), (0, [False]), (False, [0]), (-1, [-1])]:
                self.assertIs(shows_price(facts, amounts, 5, price, value), False)

    def test_inner_positions_do_not_count_as_corners(self):
        facts = Facts(log_of("abcddcba"), gone=[0, 1, 2, 3])
        self.assertEqual(price_list(facts, [1] * 8, 2), [10])
        self.assertEqual(potentials(facts, [1] * 8, 2), [0, 10])

    def test_lists_that_show_prices(self):
        facts = facts_of(CASE)
        for price, value in [(10, [0, 5, 10]), (9, [0, 4, 9]), (9, [0, 5, 9]), (2, [0, -3, 2]), (-7, [0, 5, -7])]:
            self.assertIs(shows_price(facts, PRICES, 3, price, value), True)
        rows = [(10, [0, 6, 10]), (11, [0, 5, 11]), (10, [0, 4, 10]), (10, [1, 5, 10]), (10, [-1, 5, 10])]
        rows += [(9, [0, 5, 10]), (11, [0, 5, 10]), (10, [0, 10]), (10, [0, 5, 10, 10]), (10, (0, 5, 10))]
        rows += [(10.0, [0, 5, 10]), (10, [False, 5, 10]), (10, [0, 5.0, 10]), (10, [0, None, 10])]
        rows += [(10, [0, 5, 10.0]), (None, [0, 5, 10])]
        for price, value in rows:
            self.assertIs(shows_price(facts, PRICES, 3, price, value), False)
        self.assertIs(shows_price(facts, PRICES, 30, 44, [0, 32, 44]), True)
        self.assertIs(shows_price(facts, PRICES, 30, 45, [0, 32, 45]), False)

    def test_any_value(self):
        facts = facts_of(CASE)
        for value in values_of_every_kind():
            self.assertIs(shows_price(facts, PRICES, 3, 10, value), False)
            self.assertIs(shows_price(facts, PRICES, 3, 10, [0, 5, value]), False)
            self.assertIs(shows_price(facts, PRICES, 3, value, [0, 5, 10]), False)
            self.assertIs(shows_price(facts, PRICES, 3, 5, [0, value, 5]), type(value) is int and 0 <= value <= 5)

    def test_bent_ones(self):
        facts = facts_of(CASE)
        for price in (9, 10, 11):
            for value in bent_parts(potentials(facts, PRICES, 3)):
                right = shows_price_by_words(CASE, PRICES, 3, price, value)
                self.assertIs(shows_price(facts, PRICES, 3, price, value), right, value)

    def test_wrong_prices(self):
        for value in wrong_amounts(5):
            for facts in [facts_of(CASE)] + WITH_CONFLICT:
                for function in (least_price, cheapest, price_list, potentials):
                    with self.assertRaises(InvalidPrice):
                        function(facts, value, 3)
                with self.assertRaises(InvalidPrice):
                    shows_price(facts, value, 3, 10, [0, 5, 10])

    def test_wrong_fees(self):
        for value in values_of_every_kind() + [-1, 2.0]:
            if type(value) is not int or value < 0:
                for facts in [facts_of(CASE)] + WITH_CONFLICT:
                    for function in (least_price, cheapest, price_list, potentials):
                        with self.assertRaises(InvalidPrice):
                            function(facts, PRICES, value)
                    with self.assertRaises(InvalidPrice):
                        shows_price(facts, PRICES, value, 10, [0, 5, 10])

    def test_the_empty_log_has_the_empty_list(self):
        for value in values_of_every_kind():
            if type(value) is not list or len(value) > 0:
                with self.assertRaises(InvalidPrice):
                    least_price(Facts([]), value, 0)
                with self.assertRaises(InvalidPrice):
                    most_freed(Facts([]), value, 0)

    def test_conflicts(self):
        for facts in WITH_CONFLICT:
            for function in (least_price, cheapest, price_list, potentials):
                with self.assertRaises(NoResult) as caught:
                    function(facts, PRICES, 3)
                self.assertEqual(caught.exception.paper, conflict(facts))
            for price, value in [(0, [0]), (5, [0, 5]), (0, [0, 0]), (10, [0, 5, 10])]:
                self.assertIs(shows_price(facts, PRICES, 3, price, value), False)


class Freed(unittest.TestCase):
    SHORT = Facts(LOG, longest=2)

    def test_how_much(self):
        self.assertEqual([most_freed(self.SHORT, SIZES, many) for many in range(5)], [0, 4, 7, 7, 7])
        self.assertEqual([freeing(self.SHORT, SIZES, many) for many in range(2)], [[], [(0, 1)]])
        known = self.SHORT.plus(gone=[3])
        self.assertEqual([most_freed(known, SIZES, many) for many in (1, 2, 3, 10 ** 40)], [3, 7, 7, 7])
        self.assertEqual(freeing(known, SIZES, 1), [(3, 4)])

    def test_each_size_is_freed_once(self):
        facts = Facts(log_of("abab"), gone=[], longest=3)
        self.assertEqual([most_freed(facts, [5, 7, 100, 100], many) for many in range(4)], [0, 7, 12, 12])
        self.assertEqual(most_freed(Facts(log_of("aaa")), [5, 7, 100], 2), 12)

    def test_nothing_to_free(self):
        for facts in [Facts([]), Facts(LOG, longest=1), Facts(log_of("abc")), Facts(LOG, kept=[0, 3])]:
            amounts = [7] * len(facts)
            for many in (0, 1, 5, 10 ** 30):
                self.assertEqual(most_freed(facts, amounts, many), 0)
                self.assertLessEqual(len(freeing(facts, amounts, many)), many)
                paper = freed_paper(facts, amounts, many)
                self.assertIs(shows_freed(facts, amounts, many, 0, paper), True)
                self.assertIs(shows_freed(facts, amounts, many, -1, paper), False)
        self.assertEqual(freeing(Facts([]), [], 3), [])
        self.assertEqual(freed_paper(Facts([]), [], 3), (0, []))

    def test_papers(self):
        for facts in [self.SHORT, self.SHORT.plus(gone=[0]), self.SHORT.plus(gone=[0, 3])]:
            for many in range(fewest(facts), 5):
                paper = freed_paper(facts, SIZES, many)
                self.assertIs(type(paper), tuple)
                most = most_freed(facts, SIZES, many)
                self.assertIs(shows_freed(facts, SIZES, many, most, paper), True)
                self.assertIs(shows_freed(facts, SIZES, many, most + 1, paper), True)
                self.assertIs(shows_freed(facts, SIZES, many, most - 1, paper), False)

    def test_a_paper_for_any_number(self):
        # With the price 2, each of the ranges (0, 1) and (3, 4) is worth its size less 2; those between cost 2 each.
        value = (2, [2, 0, 0, 3])
        case = (LOG, [], [], 2, [])
        for many in (-3, -1, 0, 1, 2, 10 ** 40):
            for most in (2 * many + 2, 2 * many + 3, 2 * many + 4, 0, -1):
                right = shows_freed_by_words(case, SIZES, many, most, value)
                self.assertIs(right, most >= 2 * many + 3)
                self.assertIs(shows_freed(self.SHORT, SIZES, many, most, value), right)

    def test_a_number_below_the_fewest_is_judged_by_the_conditions_alone(self):
        facts = Facts(LOG, gone=[0, 3], longest=2)
        case = (LOG, [0, 3], [], 2, [])
        value = freed_paper(facts, SIZES, 2)
        for many in (-1, 0, 1):
            for most in (-50, 0, 7, 50):
                right = shows_freed_by_words(case, SIZES, many, most, value)
                self.assertIs(shows_freed(facts, SIZES, many, most, value), right)
        self.assertIs(shows_freed(facts, SIZES, -1, 10 ** 40, value), True)

    def test_any_value(self):
        paper = (2, [2, 0, 0, 3])
        self.assertIs(shows_freed(self.SHORT, SIZES, 1, 5, paper), True)
        for value in values_of_every_kind():
            self.assertIs(shows_freed(self.SHORT, SIZES, 1, 5, value), False)
            self.assertIs(shows_freed(self.SHORT, SIZES, 1, 5, (2, value)), False)
            right = type(value) is int and value == 2
            self.assertIs(shows_freed(self.SHORT, SIZES, 1, 5, (value, [2, 0, 0, 3])), right)
            self.assertIs(shows_freed(self.SHORT, SIZES, 1, 5, (2, [2, 0, 0, value])), False)
            self.assertIs(shows_freed(self.SHORT, SIZES, value, 5, paper), type(value) is int and value <= 1)
            self.assertIs(shows_freed(self.SHORT, SIZES, 1, value, paper), type(value) is int and value >= 5)
        for value in [[2, [2, 0, 0, 3]], (2, (2, 0, 0, 3)), (2, [2, 0, 0]), (2, [2, 0, 0, 3, 3]), (2, [2, 0, 0, 3], 0)]:
            self.assertIs(shows_freed(self.SHORT, SIZES, 1, 5, value), False)

    def test_the_price_is_not_below_0(self):
        facts = Facts(log_of("aa"))
        self.assertIs(shows_freed(facts, [0, 0], -5, 10, (-1, [1])), False)
        self.assertIs(shows_freed(facts, [0, 0], -5, 10, (0, [1])), True)

    def test_bent_ones(self):
        for gone in ([], [0], [0, 3]):
            case = (LOG, gone, [], 2, [])
            facts = facts_of(case)
            for many in (2, 3):
                most = most_freed(facts, SIZES, many)
                for value in bent_parts(freed_paper(facts, SIZES, many)):
                    right = shows_freed_by_words(case, SIZES, many, most, value)
                    self.assertIs(shows_freed(facts, SIZES, many, most, value), right, value)

    def test_wrong_sizes(self):
        for value in wrong_amounts(5):
            for facts in [self.SHORT] + WITH_CONFLICT:
                for function in (most_freed, freeing, freed_paper):
                    with self.assertRaises(InvalidPrice):
                        function(facts, value, None)
                with self.assertRaises(InvalidPrice):
                    shows_freed(facts, value, 1, 4, (2, [2, 0, 0, 3]))

    def test_wrong_numbers(self):
        known = self.SHORT.plus(gone=[0, 3])
        for function in (most_freed, freeing, freed_paper):
            for value in values_of_every_kind() + [1, -1, 2.0]:
                if type(value) is not int or value < 2:
                    with self.assertRaises(InvalidNumber):
                        function(known, SIZES, value)
            for value in (-1, None, True, False, 0.0):
                with self.assertRaises(InvalidNumber):
                    function(self.SHORT, SIZES, value)
                with self.assertRaises(InvalidNumber):
                    function(Facts([]), [], value)

    def test_conflicts(self):
        for facts in WITH_CONFLICT:
            for function in (most_freed, freeing, freed_paper):
                for many in (None, True, -1, 0, 5):
                    with self.assertRaises(NoResult) as caught:
                        function(facts, SIZES, many)
                    self.assertEqual(caught.exception.paper, conflict(facts))
            for size in range(6):
                self.assertIs(shows_freed(facts, SIZES, 0, 10 ** 30, (0, [10 ** 20] * size)), False)


class RangesOfAList(unittest.TestCase):
    # Arcs (0, 3), (1, 2), (2, 5), (4, 6), (6, 7).
    LOG = log_of("abbacbcc")
    RANGES = [(0, 3), (1, 2), (0, 3), (4, 7), (2, 5)]

    def test_fewest_of_them(self):
        value = fewest_of(self.LOG, self.RANGES)
        self.assertEqual(len(value), 3)
        self.assertEqual(value, sorted(set(value)))
        self.assertEqual(marks_of_all(self.LOG, [self.RANGES[k] for k in value]), [0, 1, 2, 4, 6])
        self.assertEqual(spread(self.LOG, self.RANGES), [0, 2, 4])
        self.assertIs(shows_fewest_of(self.LOG, self.RANGES, 3, [0, 2, 4]), True)

    def test_the_indexes_ascend(self):
        self.assertEqual(fewest_of(self.LOG, [(6, 7), (0, 0), (1, 2)]), [0, 2])
        self.assertEqual(fewest_of(self.LOG, [(4, 7), (2, 5), (0, 3)]), [0, 1, 2])

    def test_a_longer_range_takes_the_place_of_others(self):
        rows = [(0, 3), (2, 5), (4, 7), (0, 5)]
        self.assertEqual((fewest_of(self.LOG, rows), spread(self.LOG, rows)), ([2, 3], [0, 4]))
        self.assertEqual(idle(self.LOG, rows), [0, 1, 3])

    def test_ranges_that_mark_nothing_are_idle(self):
        rows = [(0, 0), (7, 7), (3, 5), (1, 2)]
        self.assertEqual((fewest_of(self.LOG, rows), idle(self.LOG, rows)), ([3], [0, 1, 2]))
        self.assertEqual((spread(self.LOG, rows), spread(self.LOG, rows[:3])), ([1], []))
        self.assertEqual((fewest_of(self.LOG, rows[:3]), idle(self.LOG, rows[:3])), ([], [0, 1, 2]))

    def test_ranges_that_stand_twice(self):
        self.assertEqual(idle(self.LOG, self.RANGES), [0, 1, 2])
        self.assertEqual(idle(self.LOG, [(0, 3), (0, 3)]), [0, 1])
        self.assertEqual(idle(self.LOG, [(0, 3)]), [])
        self.assertEqual(len(fewest_of(self.LOG, [(0, 3), (0, 3)])), 1)

    def test_no_ranges(self):
        for log in ([], self.LOG):
            self.assertEqual([fewest_of(log, []), spread(log, []), idle(log, [])], [[], [], []])
            self.assertIs(shows_fewest_of(log, [], 0, []), True)
            self.assertIs(shows_fewest_of(log, [], 1, [0]), False)

    def test_any_such_list_shows_its_own_number(self):
        rows = [(0, 3), (2, 5), (4, 7), (0, 5)]
        for value in [[], [0], [1], [2], [4], [6], [0, 4], [2, 6], [1, 6]]:
            self.assertIs(shows_fewest_of(self.LOG, rows, len(value), value), True)
            self.assertIs(shows_fewest_of(self.LOG, rows, len(value) + 1, value), False)
            self.assertIs(shows_fewest_of(self.LOG, rows, len(value) - 1, value), False)
        for value in [[0, 1], [0, 2], [4, 6], [3], [5], [7], [0, 4, 6], [0, 1, 4], [4, 0], [0, 0], [8], [-2], (0, 4)]:
            self.assertIs(shows_fewest_of(self.LOG, rows, len(value), value), False)

    def test_any_value(self):
        for value in values_of_every_kind():
            self.assertIs(shows_fewest_of(self.LOG, self.RANGES, 3, value), False)
            self.assertIs(shows_fewest_of(self.LOG, self.RANGES, value, [0, 2, 4]), False)
            self.assertIs(shows_fewest_of(self.LOG, self.RANGES, 3, [0, 2, value]), False)
            right = type(value) is int and value == 1
            self.assertIs(shows_fewest_of(self.LOG, self.RANGES, value, [1]), right)

    def test_bent_ones(self):
        for number in (2, 3, 4):
            for value in bent_parts([0, 2, 4]):
                right = shows_fewest_of_by_words(self.LOG, self.RANGES, number, value)
                self.assertIs(shows_fewest_of(self.LOG, self.RANGES, number, value), right, value)

    def test_wrong_values(self):
        for function in (fewest_of, spread, idle):
            for value in wrong_logs():
                with self.assertRaises(InvalidLog):
                    function(value, None)
            for value in wrong_ranges(8):
                with self.assertRaises(InvalidRange):
                    function(self.LOG, value)
        for value in wrong_logs():
            with self.assertRaises(InvalidLog):
                shows_fewest_of(value, None, None, None)
        for value in wrong_ranges(8):
            with self.assertRaises(InvalidRange):
                shows_fewest_of(self.LOG, value, None, None)
        with self.assertRaises(InvalidRange):
            idle([], [(0, 0)])

    def test_the_arguments_stay_as_they_were(self):
        log, rows, value = list(self.LOG), list(self.RANGES), [0, 2, 4]
        fewest_of(log, rows).append(9)
        spread(log, rows).append(9)
        idle(log, rows).append(9)
        shows_fewest_of(log, rows, 3, value)
        self.assertEqual((log, rows, value), (self.LOG, self.RANGES, [0, 2, 4]))
        self.assertEqual(spread(log, rows), [0, 2, 4])


class CallsByTurns(unittest.TestCase):
    def test_other_amounts_on_one_object(self):
        facts = Facts(log_of("abcabcab"), gone=[0, 3], longest=5)
        calls = [([1, 2, 3, 4, 5, 6, 7, 8], 2, 2), ([8, 7, 6, 5, 4, 3, 2, 1], 0, 3), ([0] * 8, 9, 2)]
        first = [answers(facts, *call) for call in calls]
        for _ in range(2):
            for call, right in zip(calls, first):
                self.assertEqual(answers(facts, *call), right)
                self.assertEqual(answers(Facts(log_of("abcabcab"), gone=[3, 0, 0], longest=5), *call), right)
        self.assertNotEqual(first[0], first[1])

    def test_what_is_returned_is_a_copy(self):
        facts = facts_of(CASE)
        right = answers(facts, PRICES, 3, 1)
        for value in answers(facts, PRICES, 3, 1):
            rows = value[1] if type(value) is tuple else value
            if type(rows) is list:
                rows.clear()
        self.assertEqual(answers(facts, PRICES, 3, 1), right)
        self.assertTrue(facts == facts_of(CASE))

    def test_the_arguments_stay_as_they_were(self):
        facts = facts_of(CASE)
        amounts, value, paper = list(PRICES), [0, 5, 10], (2, [2, 0, 0, 3])
        answers(facts, amounts, 3, 2)
        shows_price(facts, amounts, 3, 10, value)
        shows_freed(facts, amounts, 2, 5, paper)
        self.assertEqual((amounts, value, paper), (PRICES, [0, 5, 10], (2, [2, 0, 0, 3])))
        self.assertTrue(facts == facts_of(CASE))


class LongLogs(unittest.TestCase):
    def check(self, facts, amounts, fee):
        price = least_price(facts, amounts, fee)
        rows = cheapest(facts, amounts, fee)
        self.assertEqual(sum(fee + sum(amounts[a:b + 1]) for a, b in rows), price)
        self.assertTrue(set(facts.gone) <= set(marks_of_all(facts.log, rows)))
        self.assertIs(shows_price(facts, amounts, fee, price, potentials(facts, amounts, fee)), True)
        self.assertEqual(price_list(facts, amounts, fee)[-1], price)
        for many in (fewest(facts), fewest(facts) + 3, 59):
            most = most_freed(facts, amounts, many)
            rows = freeing(facts, amounts, many)
            self.assertEqual(sum(amounts[i] for i in marks_of_all(facts.log, rows)), most)
            self.assertTrue(set(facts.gone) <= set(marks_of_all(facts.log, rows)))
            paper = freed_paper(facts, amounts, many)
            self.assertIs(shows_freed(facts, amounts, many, most, paper), True)
            self.assertIs(shows_freed(facts, amounts, many, most - 1, paper), False)
            self.assertTrue(all(abs(part) < 10 ** 60 for part in [paper[0]] + paper[1]))

    def test_logs_of_60_records_and_prices_of_30_digits(self):
        amounts = [10 ** 30 - 1 - i * i * 10 ** 26 for i in range(60)]
        self.check(Facts(log_of("a" * 60), gone=list(range(0, 59, 3)), longest=7), amounts, 10 ** 30 - 1)
        self.check(Facts(log_of("abcde" * 12), gone=[0, 7, 21, 40], longest=9), amounts, 0)
        self.check(Facts(log_of("abcde" * 12), gone=list(range(0, 50, 4)), kept=[5, 30], walls=[]), amounts, 1)
        self.check(Facts(log_of("ab" * 30), gone=list(range(58)), longest=3), amounts, 10 ** 29)
        self.check(Facts(log_of("ab" * 30), kept=list(range(0, 58, 9))), amounts, 10 ** 29)

    def test_a_hundred_ranges(self):
        log = log_of("abc" * 20)
        rows = [(a, a + 3 + a % 4) for a in range(50)] + [(a, a + 9) for a in range(50)]
        number = len(fewest_of(log, rows))
        self.assertIs(shows_fewest_of(log, rows, number, spread(log, rows)), True)
        whole = marks_of_all(log, rows)
        self.assertEqual(marks_of_all(log, [rows[k] for k in fewest_of(log, rows)]), whole)
        found = [k for k in range(100) if marks_of_all(log, rows[:k] + rows[k + 1:]) == whole]
        self.assertEqual(idle(log, rows), found)


if __name__ == "__main__":
    unittest.main()
