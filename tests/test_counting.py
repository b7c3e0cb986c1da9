"""Points 17, 18, 19 and 20 and the interface of counting.py, on chosen logs."""

import inspect
import unittest

from markthenpurge import counting
from markthenpurge.counting import blocks, certain, counts, nth, number_of, sets_by_size
from markthenpurge.errors import InvalidNumber, InvalidResult, NoResult
from markthenpurge.facts import Facts, conflict, greatest, is_result
from markthenpurge.ranges import fewest, most, needing, shows_fewest
from tests.small import log_of, marks_of_all
from tests.wrong import values_of_every_kind

# Arcs (0, 2), (1, 4), (2, 5); the results in their order.
LOG = [("x", 1), ("y", 2), ("x", 3), ("z", 4), ("y", 5), ("x", 6)]
IN_ORDER = [[], [0], [0, 1], [0, 1, 2], [1], [1, 2], [2], [0, 2]]
WITH_CONFLICT = [
    Facts(LOG, gone=[3]), Facts(LOG, gone=[0], kept=[0]), Facts(LOG, gone=[0, 1], longest=3),
    Facts(LOG, gone=[1], walls=[3]),
]


def answers(facts, number, many, size):
    """What all functions of counting return."""
    value = nth(facts, number)
    return [counts(facts), value, blocks(facts, value), certain(facts, many), sets_by_size(facts, size)]


class Interface(unittest.TestCase):
    def test_names_and_parameters(self):
        names = {
            "counts": ["facts"], "blocks": ["facts", "value"], "nth": ["facts", "number"],
            "number_of": ["facts", "value"], "certain": ["facts", "many"], "sets_by_size": ["facts", "most"],
        }
        for name, parameters in names.items():
            function = getattr(counting, name)
            self.assertEqual(list(inspect.signature(function).parameters), parameters)
            self.assertEqual(function.__module__, "markthenpurge.counting")

    def test_all_arguments_by_name(self):
        facts = Facts(LOG)
        self.assertEqual(counts(facts=facts), [1, 6, 1])
        self.assertEqual(blocks(facts=facts, value=[0, 2]), [(0, 2), (2, 5)])
        self.assertEqual(nth(facts=facts, number=7), [0, 2])
        self.assertEqual(number_of(facts=facts, value=[0, 2]), 7)
        self.assertEqual(certain(facts=facts, many=0), ([], [0, 1, 2, 3, 4, 5]))
        self.assertEqual(sets_by_size(facts=facts, most=1), [1, 21])


class Counts(unittest.TestCase):
    def test_the_example(self):
        self.assertEqual(counts(Facts(LOG)), [1, 6, 1])

    def test_with_facts(self):
        self.assertEqual(counts(Facts(LOG, gone=[0])), [0, 3, 1])
        self.assertEqual(counts(Facts(LOG, gone=[0, 2])), [0, 1, 1])
        self.assertEqual(counts(Facts(LOG, gone=[0, 2], kept=[1])), [0, 0, 1])
        self.assertEqual(counts(Facts(LOG, gone=[1, 0, 1])), [0, 2])
        self.assertEqual(counts(Facts(LOG, kept=[0, 1, 2])), [1])
        self.assertEqual(counts(Facts(LOG, longest=5)), [1, 5, 2])
        self.assertEqual(counts(Facts(LOG, longest=4)), [1, 3, 3, 1])
        self.assertEqual(counts(Facts(LOG, longest=3)), [1, 1])
        self.assertEqual(counts(Facts(LOG, walls=[2])), [1, 1])

    def test_the_empty_result_alone(self):
        for facts in [Facts([]), Facts(LOG[:1]), Facts(log_of("abc")), Facts(LOG, longest=1)]:
            self.assertEqual((counts(facts), nth(facts, 0), blocks(facts, []), number_of(facts, [])), ([1], [], [], 0))

    def test_a_conflict(self):
        for facts in WITH_CONFLICT:
            self.assertEqual(counts(facts), [])


class Blocks(unittest.TestCase):
    def test_a_block_takes_corners_as_long_as_it_can(self):
        facts = Facts(LOG)
        rows = [[], [(0, 2)], [(0, 4)], [(0, 5)], [(1, 4)], [(1, 5)], [(2, 5)], [(0, 2), (2, 5)]]
        self.assertEqual([blocks(facts, value) for value in IN_ORDER], rows)
        self.assertEqual(blocks(Facts(LOG, longest=5), [0, 1, 2]), [(0, 4), (2, 5)])
        self.assertEqual(blocks(Facts(LOG, longest=4), [0, 1, 2]), [(0, 2), (1, 4), (2, 5)])
        self.assertEqual(blocks(Facts(log_of("abba")), [0, 1]), [(0, 3)])
        self.assertEqual(blocks(Facts(log_of("abbcac"), walls=[5]), [1]), [(1, 2)])

    def test_kept_positions_that_do_not_bar_the_result_change_nothing(self):
        self.assertEqual(blocks(Facts(LOG, kept=[1, 4]), [0, 2]), [(0, 2), (2, 5)])

    def test_values_that_are_no_results(self):
        facts = Facts(LOG, gone=[0])
        rows = values_of_every_kind() + [[], [1], [2], [0, 3], [1, 0], [0, 0], (0,), [False], [0, True], [-6], [6]]
        for value in rows:
            if not (type(value) is list and len(value) == 1 and type(value[0]) is int and value[0] == 0):
                for function in (blocks, number_of):
                    with self.assertRaises(InvalidResult):
                        function(facts, value)
        self.assertEqual((blocks(facts, [0]), number_of(facts, [0])), ([(0, 2)], 0))

    def test_a_conflict(self):
        for facts in WITH_CONFLICT:
            for value in [[], [0], [0, 1], [1], None]:
                for function in (blocks, number_of):
                    with self.assertRaises(InvalidResult):
                        function(facts, value)


class Numbers(unittest.TestCase):
    def test_the_order(self):
        facts = Facts(LOG)
        self.assertEqual([nth(facts, number) for number in range(8)], IN_ORDER)
        self.assertEqual([number_of(facts, value) for value in IN_ORDER], list(range(8)))

    def test_the_order_of_what_is_left(self):
        facts = Facts(LOG, gone=[2], longest=5)
        rows = [[1, 2], [2], [0, 1, 2], [0, 2]]
        right = [[[1, 5]], [[2, 5]], [[0, 4], [2, 5]], [[0, 2], [2, 5]]]
        found = {tuple(value): [list(row) for row in blocks(facts, value)] for value in rows}
        self.assertEqual([found[tuple(value)] for value in rows], right)
        self.assertEqual([nth(facts, number) for number in range(4)], [[1, 2], [2], [0, 2], [0, 1, 2]])

    def test_numbers_that_no_result_has(self):
        for value in values_of_every_kind() + [8, -1, 1.0, 7.0, 10 ** 40]:
            if type(value) is not int or not 0 <= value < 8:
                with self.assertRaises(InvalidNumber):
                    nth(Facts(LOG), value)
            if type(value) is not int or value != 0:
                with self.assertRaises(InvalidNumber):
                    nth(Facts([]), value)

    def test_a_conflict(self):
        for facts in WITH_CONFLICT:
            for value in [0, 1, -1, None, True]:
                with self.assertRaises(InvalidNumber):
                    nth(facts, value)


class Certain(unittest.TestCase):
    def test_all_and_none(self):
        self.assertEqual(certain(Facts(LOG), 0), ([], [0, 1, 2, 3, 4, 5]))
        self.assertEqual(certain(Facts(LOG), 1), ([], [3, 4, 5]))
        self.assertEqual(certain(Facts(LOG, gone=[0]), 1), ([0], [3, 4, 5]))
        self.assertEqual(certain(Facts(LOG, gone=[0, 2]), 1), ([0, 1, 2], [3, 4, 5]))
        self.assertEqual(certain(Facts(LOG, gone=[0, 2]), 2), ([0, 2], [3, 4, 5]))
        self.assertEqual(certain(Facts(LOG, gone=[0], kept=[1]), 1), ([0], [1, 2, 3, 4, 5]))
        self.assertEqual(certain(Facts(LOG, gone=[0], kept=[1]), 10 ** 40), ([0], [1, 3, 4, 5]))
        self.assertEqual(certain(Facts([]), 0), ([], []))

    def test_too_few_ranges(self):
        facts = Facts(LOG, gone=[0, 1, 2], longest=4)
        for many in (0, 1, 2):
            with self.assertRaises(NoResult) as caught:
                certain(facts, many)
            name, positions = caught.exception.paper
            self.assertEqual((name, type(caught.exception.paper)), ("apart", tuple))
            self.assertIs(shows_fewest(facts, many + 1, positions), True)
        self.assertEqual(certain(facts, 3), ([0, 1, 2], [3, 4, 5]))

    def test_a_conflict(self):
        for facts in WITH_CONFLICT:
            for many in (0, 1, 10 ** 40):
                with self.assertRaises(NoResult) as caught:
                    certain(facts, many)
                self.assertEqual(caught.exception.paper, conflict(facts))

    def test_wrong_numbers_come_ahead_of_a_conflict(self):
        for facts in [Facts(LOG), Facts([]), Facts(LOG, gone=[0, 2], kept=[1])] + WITH_CONFLICT:
            for value in values_of_every_kind() + [-1, 1.0]:
                if type(value) is not int or value < 0:
                    with self.assertRaises(InvalidNumber):
                        certain(facts, value)


class Sets(unittest.TestCase):
    def test_sets_of_ranges(self):
        log = log_of("aa")
        self.assertEqual(sets_by_size(Facts(log), 4), [1, 3, 3, 1, 0])
        self.assertEqual(sets_by_size(Facts(log, gone=[0]), 4), [0, 1, 2, 1, 0])
        self.assertEqual(sets_by_size(Facts(log, kept=[0]), 4), [1, 2, 1, 0, 0])
        self.assertEqual(sets_by_size(Facts(log, gone=[0]), 0), [0])
        self.assertEqual(sets_by_size(Facts(log), 0), [1])

    def test_ranges_that_mark_nothing_count(self):
        self.assertEqual(sets_by_size(Facts(log_of("abc")), 2), [1, 6, 15])
        self.assertEqual(sets_by_size(Facts(log_of("abc"), longest=1), 4), [1, 3, 3, 1, 0])
        self.assertEqual(sets_by_size(Facts(log_of("abc"), walls=[1]), 2), [1, 4, 6])
        self.assertEqual(sets_by_size(Facts([]), 3), [1, 0, 0, 0])

    def test_a_conflict(self):
        for facts in WITH_CONFLICT + [Facts(LOG, gone=[5]), Facts(log_of("a"), gone=[0])]:
            self.assertEqual([sets_by_size(facts, most) for most in (0, 1, 3)], [[0], [0, 0], [0, 0, 0, 0]])

    def test_wrong_numbers(self):
        for facts in [Facts(LOG), Facts([])] + WITH_CONFLICT:
            for value in values_of_every_kind() + [-1, 2.0]:
                if type(value) is not int or value < 0:
                    with self.assertRaises(InvalidNumber):
                        sets_by_size(facts, value)


class CallsByTurns(unittest.TestCase):
    def test_other_numbers_on_one_object(self):
        facts = Facts(log_of("abcabcab"), gone=[3], kept=[6])
        calls = [(0, 3, 2), (2, 1, 0), (1, 2, 5)]
        first = [answers(facts, *call) for call in calls]
        for _ in range(2):
            for call, right in zip(calls, first):
                self.assertEqual(answers(facts, *call), right)
                self.assertEqual(answers(Facts(log_of("abcabcab"), gone=[3, 3], kept=(6,)), *call), right)

    def test_what_is_returned_is_a_copy(self):
        facts = Facts(LOG, gone=[0])
        right = answers(facts, 1, 1, 2)
        for value in answers(facts, 1, 1, 2):
            for rows in value if type(value) is tuple else [value]:
                rows.clear()
        self.assertEqual(answers(facts, 1, 1, 2), right)
        self.assertTrue(facts == Facts(LOG, gone=[0]))

    def test_the_arguments_stay_as_they_were(self):
        facts = Facts(LOG, gone=[0])
        value = [0, 2]
        blocks(facts, value)
        number_of(facts, value)
        self.assertEqual(value, [0, 2])
        self.assertTrue(facts == Facts(LOG, gone=[0]))


class LongLogs(unittest.TestCase):
    def check(self, facts):
        numbers = counts(facts)
        self.assertEqual(len(numbers) - 1, most(facts))
        self.assertTrue(all(numbers[number] == 0 for number in range(fewest(facts))))
        self.assertTrue(all(numbers[number] > 0 for number in range(fewest(facts), most(facts) + 1)))
        whole = sum(numbers)
        for number in (0, whole // 3, whole // 2, whole - 1):
            value = nth(facts, number)
            self.assertIs(is_result(facts, value), True)
            self.assertEqual(number_of(facts, value), number)
            self.assertEqual(fewest(facts.exact(value)), len(blocks(facts, value)))
            self.assertEqual(marks_of_all(facts.log, blocks(facts, value)), value)
        for number in (fewest(facts), most(facts)):
            place = number_of(facts, needing(facts, number))
            self.assertTrue(sum(numbers[:number]) <= place < sum(numbers[:number + 1]))
        with self.assertRaises(InvalidNumber):
            nth(facts, whole)

    def test_logs_of_60_records(self):
        facts = Facts(log_of("a" * 60))
        self.assertEqual(sum(counts(facts)), 2 ** 59)
        self.check(facts)
        self.check(Facts(log_of("ab" * 30), gone=[0, 20, 21, 40], longest=11))
        known = Facts(log_of("abcdef" * 10), kept=[8, 33], walls=[26])
        self.check(known.plus(gone=greatest(known)[::8]))
        self.check(Facts(log_of("abcdefghijklmnopqrstuvwxyz" * 2 + "hgfedcba"), gone=[3, 30]))
        self.check(Facts(log_of("abcdefghijklmnopqrstuvwxyz" + "zyxwvutsrqponmlkjihgfedcba" + "aabbccdd")))

    def test_sets_of_a_log_of_60_records(self):
        facts = Facts(log_of("abc" * 20), gone=[0, 9, 30, 48], longest=20)
        numbers = sets_by_size(facts, 8)
        self.assertEqual(numbers[:fewest(facts)], [0] * fewest(facts))
        self.assertTrue(all(number > 0 for number in numbers[fewest(facts):]))
        right = [1, 1830, 1830 * 1829 // 2, 1830 * 1829 * 1828 // 6]
        self.assertEqual(sets_by_size(Facts(log_of("abc" * 20)), 3), right)

    def test_a_log_of_24_records(self):
        facts = Facts(log_of("abcd" * 6), gone=[0, 13], kept=[6])
        always, never = certain(facts, 2)
        for i in range(24):
            self.assertEqual(i in always, sum(counts(facts.plus(kept=[i]))[:3]) == 0)
            self.assertEqual(i in never, sum(counts(facts.plus(gone=[i]))[:3]) == 0)


if __name__ == "__main__":
    unittest.main()
