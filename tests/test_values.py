"""Point 33 and the interface of values.py, on chosen logs."""

import inspect
import unittest

from markthenpurge import values
from markthenpurge.errors import InvalidLog, InvalidPosition, InvalidRead, NoResult
from markthenpurge.facts import Facts, conflict, is_result, least
from markthenpurge.values import keeps_values, least_keeping, shows_lost, value_at
from tests.cases import facts_of
from tests.papers import bent_parts
from tests.reads import shows_lost_by_words
from tests.small import log_of
from tests.wrong import Stubborn, values_of_every_kind, wrong_logs, wrong_positions, wrong_reads

LOG = [("x", 1), ("x", 2), ("x", 1), ("x", 4)]
# Arcs (0, 3), (1, 2), (3, 5).
MIXED = [("x", 1), ("y", None), ("y", 3), ("x", 1), ("z", 0), ("x", 5)]
THREE = log_of("xyx")


class Interface(unittest.TestCase):
    def test_names_and_parameters(self):
        names = {
            "value_at": ["log", "key", "place"], "keeps_values": ["log", "gone", "reads"],
            "least_keeping": ["facts", "reads"], "shows_lost": ["facts", "reads", "value"],
        }
        for name, parameters in names.items():
            function = getattr(values, name)
            self.assertEqual(list(inspect.signature(function).parameters), parameters)
            self.assertEqual(function.__module__, "markthenpurge.values")

    def test_all_arguments_by_name(self):
        self.assertEqual(value_at(log=LOG, key="x", place=1), 2)
        self.assertIs(keeps_values(log=LOG, gone=[0], reads=[("x", 1)]), True)
        self.assertEqual(least_keeping(facts=Facts(LOG, gone=[2]), reads=[("x", 2)]), [1, 2])
        self.assertIs(shows_lost(facts=Facts(LOG, gone=[3]), reads=[], value=[("gone", 3), ("newest", 3)]), True)


class ValueAt(unittest.TestCase):
    def test_the_newest_record_at_or_before_the_place(self):
        self.assertEqual([value_at(LOG, "x", place) for place in range(4)], [1, 2, 1, 4])
        self.assertEqual([value_at(MIXED, "y", place) for place in range(6)], [None, None, 3, 3, 3, 3])
        self.assertEqual([value_at(MIXED, "z", place) for place in range(6)], [None] * 4 + [0, 0])

    def test_keys_that_the_log_does_not_have(self):
        self.assertIsNone(value_at(LOG, "other", 3))
        self.assertIs(keeps_values(LOG, [0, 1, 2], [("other", 3), ("z", 0)]), True)
        self.assertEqual(least_keeping(Facts(LOG, gone=[0]), [("other", 3)]), [0])

    def test_wrong_values(self):
        for value in wrong_reads():
            if type(value) is list and len(value) == 1 and type(value[0]) is tuple and len(value[0]) == 2:
                with self.assertRaises(InvalidRead):
                    value_at(THREE, *value[0])
        for value in values_of_every_kind() + [Stubborn()]:
            if type(value) is not int or not 0 <= value < 3:
                with self.assertRaises(InvalidRead):
                    value_at(THREE, "x", value)
            if type(value) is not str or value not in ("x", "newest"):
                with self.assertRaises(InvalidRead):
                    value_at(THREE, value, 0)
            with self.assertRaises(InvalidRead):
                value_at([], "x", value)
        for value in wrong_logs():
            with self.assertRaises(InvalidLog):
                value_at(value, None, None)


class KeepsValues(unittest.TestCase):
    def test_values_and_not_answers_are_kept(self):
        self.assertIs(keeps_values(LOG, [1, 2], [("x", 2)]), True)
        self.assertIs(keeps_values(LOG, [2], [("x", 2)]), False)
        self.assertIs(keeps_values(LOG, [2], [("x", 1), ("x", 3), ("x", 0)]), True)
        self.assertIs(keeps_values(LOG, [0, 1, 2], [("x", 2)]), False)
        self.assertIs(keeps_values(LOG, [0, 1, 2, 3], []), True)

    def test_no_value(self):
        # A tombstone and no record at all give the same value.
        self.assertIs(keeps_values(MIXED, [1], [("y", 1)]), True)
        self.assertIs(keeps_values(MIXED, [2], [("y", 1)]), True)
        self.assertIs(keeps_values(MIXED, [2], [("y", 2)]), False)
        self.assertIs(keeps_values(MIXED, [1, 2], [("y", 2)]), False)
        self.assertIs(keeps_values([("x", 0), ("x", None)], [1], [("x", 1)]), False)
        self.assertIs(keeps_values([("x", None), ("x", 0)], [1], [("x", 1)]), False)

    def test_positions_in_any_order_and_twice(self):
        self.assertIs(keeps_values(LOG, (2, 1, 2), [("x", 2), ("x", 2)]), True)
        self.assertIs(keeps_values([], [], []), True)

    def test_errors_in_their_order(self):
        for value in wrong_logs():
            with self.assertRaises(InvalidLog):
                keeps_values(value, None, None)
        for value in wrong_positions(3):
            with self.assertRaises(InvalidPosition):
                keeps_values(THREE, value, None)
        for value in wrong_reads():
            with self.assertRaises(InvalidRead):
                keeps_values(THREE, [0], value)


class LeastKeeping(unittest.TestCase):
    def check_lost(self, facts, reads, last):
        with self.assertRaises(NoResult) as caught:
            least_keeping(facts, reads)
        paper = caught.exception.paper
        self.assertEqual((type(paper), paper[-1]), (list, last))
        self.assertIs(shows_lost(facts, reads, paper), True)
        case = (facts.log, facts.gone, facts.kept, facts.longest, facts.walls)
        self.assertTrue(shows_lost_by_words(case, reads, paper))
        return paper

    def test_the_example(self):
        self.assertEqual(least_keeping(Facts(LOG, gone=[2]), [("x", 2)]), [1, 2])

    def test_without_reads_it_is_the_least_result(self):
        for facts in [Facts(MIXED, gone=[0]), Facts(MIXED), Facts([]), Facts(LOG, gone=[1], longest=2)]:
            self.assertEqual(least_keeping(facts, []), least(facts))

    def test_reads_that_need_more(self):
        self.assertEqual(least_keeping(Facts(LOG, gone=[2]), [("x", 1), ("x", 3)]), [2])
        log = [("x", 1), ("y", 0), ("x", 2), ("y", 5), ("y", 0), ("x", 1), ("x", 2)]
        # Of x, the record at 2 must go for the read at 5, and with it the ones of y inside of its arc.
        self.assertEqual(least_keeping(Facts(log, gone=[5]), [("x", 5)]), [2, 3, 5])
        self.assertEqual(least_keeping(Facts(log, gone=[5]), [("x", 6), ("y", 6)]), [5])

    def test_a_value_of_none(self):
        log = [("x", 3), ("x", None), ("x", 4), ("x", 5)]
        self.assertEqual(least_keeping(Facts(log, gone=[1]), [("x", 1)]), [0, 1])
        self.assertEqual(least_keeping(Facts(log), [("x", 1), ("z", 3)]), [])

    def test_each_form_at_the_end(self):
        self.check_lost(Facts(LOG, gone=[3]), [], ("newest", 3))
        self.check_lost(Facts(LOG, gone=[2], kept=[1]), [("x", 2)], ("kept", 1))
        self.check_lost(Facts(LOG, gone=[2, 0]), [("x", 2)], ("empty", 0))
        log = [("x", 1), ("y", 2), ("x", 2), ("y", 3), ("x", 1), ("x", 2)]
        self.check_lost(Facts(log, gone=[4], longest=2), [("x", 4)], ("long", 2))
        self.check_lost(Facts(log, gone=[4], walls=[3, 4]), [("x", 4)], ("wall", 2, 3))

    def test_a_newest_position_can_be_named(self):
        log = [("x", 1), ("y", 2), ("x", 2), ("x", 2)]
        paper = self.check_lost(Facts([("x", 1), ("x", 2), ("x", 2)], gone=[1, 2]), [("x", 2)], ("newest", 2))
        self.assertIn(("behind", 0, 0), paper)
        paper = self.check_lost(Facts(log, gone=[3, 2]), [("x", 3)], ("newest", 3))
        self.assertEqual(len(paper), len(set(paper)))

    def test_a_conflict_is_told_by_a_derivation(self):
        for facts in [Facts(MIXED, gone=[0], kept=[1]), Facts(MIXED, gone=[5]), Facts(MIXED, gone=[0], walls=[2])]:
            with self.assertRaises(NoResult) as caught:
                least_keeping(facts, [])
            self.assertNotEqual(caught.exception.paper, conflict(facts))
            self.assertIs(shows_lost(facts, [], caught.exception.paper), True)
        paper = self.check_lost(Facts(MIXED, gone=[0], kept=[1]), [], ("kept", 1))
        self.assertEqual(paper, [("gone", 0), ("inside", 0, 1), ("kept", 1)])

    def test_wrong_reads(self):
        for facts in [Facts(THREE), Facts(THREE, gone=[2])]:
            for value in wrong_reads():
                with self.assertRaises(InvalidRead):
                    least_keeping(facts, value)
                with self.assertRaises(InvalidRead):
                    shows_lost(facts, value, None)
        for value in [[("x", 0)], None, ()]:
            with self.assertRaises(InvalidRead):
                least_keeping(Facts([]), value)


class ShowsLost(unittest.TestCase):
    CASE = (MIXED, [0, 3], [1], 3, [2])
    READS = [("x", 3), ("y", 2), ("x", 5), ("y", 1)]
    RIGHT = [
        [("gone", 0), ("long", 0)], [("gone", 0), ("wall", 0, 2)], [("gone", 0), ("inside", 0, 1), ("kept", 1)],
        [("gone", 0), ("gone", 3), ("empty", 0)], [("gone", 3), ("gone", 0), ("empty", 0)],
        [("gone", 0), ("gone", 0), ("long", 0)], [("gone", 0), ("inside", 0, 0), ("long", 0)],
        [("gone", 3), ("gone", 0), ("gone", 3), ("inside", 0, 1), ("kept", 1)],
        [("gone", 0), ("inside", 0, 1), ("wall", 1, 2)],
    ]
    WRONG = [
        [], [("gone", 0)], [("long", 0)], [("gone", 3), ("empty", 0)], [("gone", 0), ("newest", 0)], [("kept", 1)],
        [("gone", 0), ("inside", 0, 1), ("kept", 0)], [("gone", 0), ("wall", 0, 3)], [("gone", 1), ("kept", 1)],
        [("gone", 3), ("inside", 3, 1), ("kept", 1)], [("inside", 0, 1), ("kept", 1)], [("gone", 0), ("long", 1)],
        [("gone", 0), ("inside", 0, 1), ("long", 1)], [("gone", 0), ("inside", 1, 0)], [("empty", 3)], [("empty", 9)],
        [("gone", 0), ("long", 0), ("long", 0)], [("gone", 0), ("inside", 1, 0), ("long", 0)],
        [("gone", 0), ("gone", 3)],
        [("gone", 0), ("inside", 0, 1), ("inside", 1, 0)], [("gone", 0), ("gone", 3), ("behind", 0, -1), ("newest", 5)],
        [("behind", 1, 1), ("kept", 1)], [("behind", 3, 1), ("kept", 1)], [("gone", 0), ("inside", 1, 0), ("kept", 1)],
    ]

    def test_right_and_wrong_derivations(self):
        facts = facts_of(self.CASE)
        for value in self.RIGHT:
            self.assertIs(shows_lost(facts, self.READS, value), True, value)
            self.assertTrue(shows_lost_by_words(self.CASE, self.READS, value))
        for value in self.WRONG:
            self.assertIs(shows_lost(facts, self.READS, value), False, value)
            self.assertFalse(shows_lost_by_words(self.CASE, self.READS, value))

    def test_what_stands_behind_an_answer(self):
        log = [("x", 1), ("x", 2), ("x", 2), ("x", 1), ("x", 9)]
        facts = Facts(log, gone=[3], kept=[1])
        reads = [("x", 3), ("x", 4)]
        right = [("gone", 3), ("behind", 0, 2), ("behind", 0, 1), ("kept", 1)]
        self.assertIs(shows_lost(facts, reads, right), True)
        for at in range(4):
            self.assertIs(shows_lost(facts, reads, right[:at] + right[at + 1:]), False)
        for step in [("behind", 0, 0), ("behind", 1, 2), ("behind", 0, 4), ("behind", 2, 2), ("behind", -1, 2)]:
            self.assertIs(shows_lost(facts, reads, [right[0], step] + right[1:]), False)
        self.assertIs(shows_lost(facts, reads, [right[0], right[2], right[1], right[3]]), False)
        with self.assertRaises(NoResult) as caught:
            least_keeping(facts, reads)
        self.assertEqual(caught.exception.paper, right)

    def test_any_value(self):
        facts = facts_of(self.CASE)
        for value in values_of_every_kind() + [Stubborn()]:
            whole = type(value) is int
            self.assertIs(shows_lost(facts, self.READS, value), False)
            self.assertIs(shows_lost(facts, self.READS, [value]), False)
            self.assertIs(shows_lost(facts, self.READS, [("gone", 0), value]), False)
            self.assertIs(shows_lost(facts, self.READS, [value, ("long", 0)]), False)
            self.assertIs(shows_lost(facts, self.READS, [("gone", value), ("long", 0)]), whole and value == 0)
            self.assertIs(shows_lost(facts, self.READS, [("gone", 0), ("long", value)]), whole and value == 0)
            self.assertIs(shows_lost(facts, self.READS, [("gone", 0), ("wall", 0, value)]), whole and value == 2)
            self.assertIs(shows_lost(facts, self.READS, [("gone", 0), (value, 0)]), False)
            self.assertIs(shows_lost(facts, self.READS, [(value, 0), ("long", 0)]), False)
            rows = [("gone", 0), ("inside", 0, value), ("kept", 1)]
            self.assertIs(shows_lost(facts, self.READS, rows), whole and value == 1)
            rows = [("gone", 0), ("gone", 3), ("empty", value)]
            self.assertIs(shows_lost(facts, self.READS, rows), whole and value == 0)
        self.assertIs(shows_lost(facts, self.READS, tuple(self.RIGHT[0])), False)
        self.assertIs(shows_lost(facts, self.READS, [list(step) for step in self.RIGHT[0]]), False)

    def test_bent_ones(self):
        facts = facts_of(self.CASE)
        for right in self.RIGHT:
            for value in bent_parts(right):
                found = shows_lost(facts, self.READS, value)
                self.assertIs(found, shows_lost_by_words(self.CASE, self.READS, value), value)


class CallsByTurns(unittest.TestCase):
    READS = [[], [("x", 2)], [("x", 1), ("x", 3)], [("x", 3), ("y", 1)]]

    def answers(self, facts, reads):
        found = [keeps_values(facts.log, facts.gone, reads), [value_at(facts.log, *read) for read in reads]]
        return found + [least_keeping(facts, reads)]

    def test_other_reads_on_one_object(self):
        facts = Facts(LOG, gone=[2])
        first = [self.answers(facts, reads) for reads in self.READS]
        for _ in range(2):
            self.assertEqual([self.answers(facts, reads) for reads in self.READS], first)
            self.assertEqual([self.answers(Facts(LOG, gone=(2, 2)), reads) for reads in self.READS], first)

    def test_what_is_returned_is_a_copy(self):
        facts = Facts(LOG, gone=[2])
        least_keeping(facts, [("x", 2)]).clear()
        self.assertEqual(least_keeping(facts, [("x", 2)]), [1, 2])
        facts = Facts(LOG, gone=[3])
        for _ in range(2):
            with self.assertRaises(NoResult) as caught:
                least_keeping(facts, [])
            self.assertEqual(caught.exception.paper, [("gone", 3), ("newest", 3)])
            caught.exception.paper.clear()

    def test_the_arguments_stay_as_they_were(self):
        log, gone, reads, value = list(LOG), [2, 0], [("x", 2), ("x", 2)], [("gone", 2), ("newest", 2)]
        facts = Facts(log, gone=[2])
        keeps_values(log, gone, reads)
        least_keeping(facts, reads)
        shows_lost(facts, reads, value)
        self.assertEqual((log, gone, reads), (LOG, [2, 0], [("x", 2), ("x", 2)]))
        self.assertEqual(value, [("gone", 2), ("newest", 2)])
        self.assertTrue(facts == Facts(LOG, gone=[2]))


class LongLogs(unittest.TestCase):
    def test_logs_of_200_records_with_60_reads(self):
        log = [("abcde"[i * i % 5], i * 7 % 3) for i in range(200)]
        reads = [("abcde"[k % 5], 3 * k + 10) for k in range(60)]
        for gone in [[20], [30, 61, 90], [5, 100, 150]]:
            facts = Facts(log, gone=gone)
            try:
                found = least_keeping(facts, reads)
            except NoResult as error:
                self.assertIs(shows_lost(facts, reads, error.paper), True)
            else:
                self.assertIs(is_result(facts, found), True)
                self.assertIs(keeps_values(log, found, reads), True)

    def test_long_derivations(self):
        log = [("x", 1)] + [("x", 2)] * 197 + [("x", 1), ("x", 3)]
        facts = Facts(log, gone=[198])
        self.assertEqual(least_keeping(facts, [("x", 198)]), list(range(1, 199)))
        facts = Facts(log, gone=[198], kept=[1])
        with self.assertRaises(NoResult) as caught:
            least_keeping(facts, [("x", 198)])
        paper = caught.exception.paper
        self.assertEqual((len(paper), paper[-1]), (199, ("kept", 1)))
        self.assertIs(shows_lost(facts, [("x", 198)], paper), True)
        self.assertIs(shows_lost(facts, [("x", 198)], paper[:1] * 800 + paper), True)
        self.assertIs(shows_lost(facts, [("x", 198)], paper[:50] + paper[51:]), False)

    def test_values_of_30_digits(self):
        big = 10 ** 30 - 1
        log = [("x", big), ("x", -big), ("x", big), ("x", 0)]
        self.assertEqual(value_at(log, "x", 1), -big)
        self.assertEqual(least_keeping(Facts(log, gone=[2]), [("x", 2)]), [1, 2])


if __name__ == "__main__":
    unittest.main()
