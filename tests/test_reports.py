"""Points 21, 22, 23 and 24 and the interface of reports.py, on chosen logs."""

import inspect
import unittest

from markthenpurge import reports as module
from markthenpurge.counting import sets_by_size
from markthenpurge.errors import InvalidNumber, InvalidPosition, InvalidReport, InvalidResult, NoResult
from markthenpurge.facts import Facts, conflict
from markthenpurge.ranges import fewest
from markthenpurge.reports import agrees, chance, end_counts, fewest_others, filling_number, fillings, nth_filling
from markthenpurge.reports import possible, shows_none
from tests.cases import facts_of
from tests.fillings import agrees_by_words, all_agreeing, shows_none_by_words
from tests.papers import bent_parts
from tests.small import log_of
from tests.wrong import Stubborn, values_of_every_kind, wrong_integers, wrong_reports

# Arcs (0, 2), (1, 3).
LOG = [("x", 1), ("y", 2), ("x", 3), ("y", 4)]
# Arcs (0, 3), (1, 2), (2, 5), (4, 6), (6, 7).
LONGER = log_of("abbacbcc")
WITH_CONFLICT = [
    Facts(LOG, gone=[3]), Facts(LOG, gone=[0], kept=[0]), Facts(LOG, gone=[0, 1], longest=2),
    Facts(LOG, gone=[1], walls=[2]),
]
# Each function with the arguments that come behind the facts and the reports, and whether it has others.
CALLS = [
    (possible, [], True), (agrees, [[]], True), (shows_none, [None], True), (fewest_others, [], False),
    (fillings, [], True), (chance, [0], True), (end_counts, [0], True), (nth_filling, [0], True),
    (filling_number, [[]], True),
]


class Interface(unittest.TestCase):
    def test_names_and_parameters(self):
        names = {
            "possible": ["facts", "reports"], "agrees": ["facts", "reports", "value"],
            "shows_none": ["facts", "reports", "value"], "fillings": ["facts", "reports"],
            "chance": ["facts", "reports", "position"], "end_counts": ["facts", "reports", "index"],
            "nth_filling": ["facts", "reports", "number"], "filling_number": ["facts", "reports", "value"],
        }
        for name, parameters in names.items():
            found = inspect.signature(getattr(module, name)).parameters
            self.assertEqual(list(found), parameters + ["others"])
            self.assertEqual((found["others"].kind, found["others"].default), (inspect.Parameter.KEYWORD_ONLY, 0))
            self.assertEqual(getattr(module, name).__module__, "markthenpurge.reports")
        self.assertEqual(list(inspect.signature(fewest_others).parameters), ["facts", "reports"])
        self.assertEqual(fewest_others.__module__, "markthenpurge.reports")

    def test_all_arguments_by_name(self):
        facts = Facts(LOG, gone=[0])
        rows = [(0, (0, 3))]
        self.assertEqual(possible(facts=facts, reports=rows, others=0), ("filling", [(0, 3)]))
        self.assertIs(agrees(facts=facts, reports=rows, value=[(0, 2), (1, 1)], others=1), True)
        self.assertIs(shows_none(facts=facts, reports=[], value=("apart", [0]), others=0), True)
        self.assertEqual(fewest_others(facts=facts, reports=[]), 1)
        self.assertEqual(fillings(facts=facts, reports=rows, others=1), 24)
        self.assertEqual(chance(facts=facts, reports=rows, position=1, others=1), (7, 12))
        self.assertEqual(end_counts(facts=facts, reports=rows, index=0, others=1), [(0, 2), (1, 2), (2, 10), (3, 10)])
        self.assertEqual(nth_filling(facts=facts, reports=rows, number=0, others=1), [(0, 0), (0, 2)])
        self.assertEqual(filling_number(facts=facts, reports=rows, value=[(0, 0), (0, 3)], others=1), 1)

    def test_others_by_name_alone(self):
        for function, arguments, _ in CALLS:
            with self.assertRaises(TypeError):
                function(Facts(LOG), [], *arguments, 1)
        with self.assertRaises(TypeError):
            fewest_others(Facts(LOG), [], others=1)


class Possible(unittest.TestCase):
    def check(self, facts, rows, others):
        name, told = possible(facts, rows, others=others)
        case = (facts.log, facts.gone, facts.kept, facts.longest, facts.walls)
        self.assertIs(agrees(facts, rows, told, others=others), name == "filling")
        self.assertIs(shows_none(facts, rows, told, others=others), name == "none")
        self.assertIs(agrees_by_words(case, rows, others, told), name == "filling")
        self.assertIs(shows_none_by_words(case, rows, others, told), name == "none")
        return name, told

    def test_the_longest_choices_and_ranges_beside_them(self):
        facts = Facts(LONGER, gone=[0, 4], kept=[2])
        self.assertEqual(self.check(facts, [(0, (1, 6))], 1), ("filling", [(0, 4), (4, 6)]))
        self.assertEqual(self.check(facts, [(0, (1, 6))], 3), ("filling", [(0, 4), (4, 6), (0, 0), (0, 0)]))
        self.assertEqual(self.check(facts, [((0, 5), 6), ((0, 3), 3)], 0), ("filling", [(3, 6), (0, 3)]))
        self.assertEqual(self.check(facts, [((4, 4), 6), (0, (3, 3))], 0), ("filling", [(4, 6), (0, 3)]))

    def test_the_papers(self):
        facts = Facts(LONGER, gone=[0, 4], kept=[2])
        self.assertEqual(self.check(facts, [(0, (1, 6)), (2, (5, 7))], 1), ("none", ("report", 1)))
        self.assertEqual(self.check(facts, [(0, (1, 2))], 0)[1], ("apart", [0]))
        self.assertEqual(self.check(facts, [(0, (1, 2))], 1)[1], ("apart", [0, 4]))
        self.assertEqual(self.check(facts, [], 1)[1], ("apart", [0, 4]))
        self.assertEqual(self.check(facts, [(0, 5), (0, 6)], 0)[1], ("report", 0))
        for facts in WITH_CONFLICT:
            self.assertEqual(self.check(facts, [(0, 0)], 2), ("none", conflict(facts)))

    def test_a_conflict_comes_ahead_of_a_report(self):
        self.assertEqual(possible(Facts(LOG, gone=[0, 3], kept=[1]), [(1, 3)]), ("none", ("newest", 3)))

    def test_the_empty_log(self):
        self.assertEqual(possible(Facts([]), []), ("filling", []))
        self.assertEqual(possible(Facts([]), [], others=0), ("filling", []))
        self.assertIs(agrees(Facts([]), [], []), True)
        self.assertIs(shows_none(Facts([]), [], ("apart", [])), False)
        self.assertEqual((fewest_others(Facts([]), []), fillings(Facts([]), [])), (0, 1))
        self.assertEqual((nth_filling(Facts([]), [], 0), filling_number(Facts([]), [], [])), ([], 0))

    def test_each_paper_is_judged_by_itself(self):
        facts = Facts(LONGER, gone=[0, 4, 7], kept=[2])
        rows = [(2, (5, 7)), (0, (0, 2))]
        for value in [("newest", 7), ("report", 0), ("apart", [0, 4])]:
            self.assertIs(shows_none(facts, rows, value, others=1), True)
        for value in [("newest", 4), ("report", 1), ("report", 2), ("report", -1), ("apart", [0]), ("apart", [4])]:
            self.assertIs(shows_none(facts, rows, value, others=1), False)
        for value in [("apart", [4, 7]), ("apart", [0, 4, 7]), ("apart", []), ("apart", (0, 4)), ["apart", [0, 4]]]:
            self.assertIs(shows_none(facts, rows, value, others=1), False)
        self.assertIs(shows_none(facts, rows, ("apart", [4]), others=0), True)
        self.assertIs(shows_none(facts, rows + [((4, 5), 6)], ("apart", [4]), others=0), False)

    def test_fewest_others(self):
        facts = Facts(LONGER, gone=[0, 4], kept=[2])
        rows = [[], [(0, 7)], [(0, (0, 7))], [((0, 7), 7)], [(0, (0, 7)), ((0, 7), 7)], [(1, 2)], [(0, (0, 2))]]
        barred = [(0, 7)]
        for row in rows:
            if row == barred:
                with self.assertRaises(NoResult) as caught:
                    fewest_others(facts, row)
                self.assertEqual(caught.exception.paper, ("report", 0))
        self.assertEqual([fewest_others(facts, row) for row in rows if row != barred], [2, 1, 1, 0, 2, 2])
        for facts in WITH_CONFLICT:
            with self.assertRaises(NoResult) as caught:
                fewest_others(facts, [(0, 3)])
            self.assertEqual(caught.exception.paper, conflict(facts))


class Judges(unittest.TestCase):
    CASE = (LONGER, [4, 0, 4], [2], None, [])

    def test_any_value(self):
        facts = facts_of(self.CASE)
        for value in values_of_every_kind():
            self.assertIs(agrees(facts, [], value, others=2), False)
            self.assertIs(agrees(facts, [], [(0, 3), value], others=2), False)
            self.assertIs(agrees(facts, [], [(0, 3), (4, value)], others=2), False)
            self.assertIs(agrees(facts, [], [(0, 3), (value, 6)], others=2), False)
            self.assertIs(shows_none(facts, [(2, 5)], value), False)
            self.assertIs(shows_none(facts, [(2, 5)], ("report", value)), type(value) is int and value == 0)
            self.assertIs(shows_none(facts, [(0, 0)], ("apart", value)), False)
            self.assertIs(shows_none(facts, [(0, 0)], ("apart", [value])), type(value) is int and value == 0)
            self.assertIs(shows_none(facts, [(2, 5)], (value, 0)), False)
            self.assertIs(shows_none(facts, [(2, 5)], (value, [0])), False)
        self.assertIs(shows_none(facts, [(2, 5)], (Stubborn(), Stubborn())), False)

    def test_bent_fillings(self):
        facts = facts_of(self.CASE)
        for rows, others in [([(0, (1, 6))], 1), ([((3, 5), 6), (0, 3)], 0), ([], 2), ([((0, 4), 4)], 2)]:
            _, right = possible(facts, rows, others=others)
            self.assertIs(agrees(facts, rows, right, others=others), True)
            for value in bent_parts(right):
                found = agrees(facts, rows, value, others=others)
                self.assertIs(found, agrees_by_words(self.CASE, rows, others, value), value)

    def test_bent_papers(self):
        facts = facts_of(self.CASE)
        for rows, others in [([(0, (1, 2)), ((6, 7), 7)], 1), ([(0, 1), (2, (5, 6))], 1), ([], 1), ([], 0)]:
            _, right = possible(facts, rows, others=others)
            self.assertIs(shows_none(facts, rows, right, others=others), True)
            for value in bent_parts(right):
                found = shows_none(facts, rows, value, others=others)
                self.assertIs(found, shows_none_by_words(self.CASE, rows, others, value), value)

    def test_fillings_that_do_not_agree(self):
        facts = Facts(LOG, gone=[0], kept=[1])
        rows = [(0, (1, 2))]
        self.assertIs(agrees(facts, rows, [(0, 2)]), True)
        for value in [[(0, 1)], [(0, 3)], [(0, 2), (0, 2)], [], [[0, 2]], ((0, 2),), [(0, 2, 2)], [(False, 2)]]:
            self.assertIs(agrees(facts, rows, value), False)
        self.assertIs(agrees(facts, rows, [(0, 1), (0, 2)], others=1), True)
        self.assertIs(agrees(facts, rows, [(0, 2), (0, 1)], others=1), True)
        self.assertIs(agrees(facts, rows, [(0, 1), (0, 3)], others=1), False)
        self.assertIs(agrees(facts, [(0, 0), (0, 2)], [(0, 2), (0, 0)]), False)
        for facts in WITH_CONFLICT:
            self.assertIs(agrees(facts, [], [(0, 3)], others=1), False)


class Fillings(unittest.TestCase):
    def test_the_examples(self):
        facts = Facts(LOG, gone=[0])
        self.assertEqual(fillings(facts, [(0, (0, 3))], others=1), 24)
        self.assertEqual(chance(facts, [(0, (0, 3))], 1, others=1), (7, 12))

    def test_known_and_unknown_ends(self):
        facts = Facts(LOG, gone=[0])
        self.assertEqual([fillings(facts, [row]) for row in [(0, 2), (0, 1), (1, 3), (0, 3)]], [1, 0, 0, 1])
        self.assertEqual([fillings(facts, [row]) for row in [(0, (0, 3)), (0, (2, 2)), (0, (1, 1))]], [2, 1, 0])
        self.assertEqual([fillings(facts, [row]) for row in [((0, 3), 3), ((0, 0), 2), ((1, 2), 2)]], [1, 1, 0])
        self.assertEqual(fillings(facts, [(0, (0, 3)), ((0, 3), 3)]), 4 * 4 - 2 * 3)
        self.assertEqual(fillings(Facts(LOG), [(2, (0, 3)), ((0, 3), 1)]), 2 * 2)
        self.assertEqual(fillings(Facts(LOG, kept=[1]), [((0, 3), 3), (0, (0, 3))]), 2 * 3)

    def test_no_reports(self):
        self.assertEqual([fillings(Facts(LOG), [], others=others) for others in (0, 1, 2, 3)], [1, 10, 100, 1000])
        facts = Facts(LOG, gone=[0, 1])
        self.assertEqual([fillings(facts, [], others=others) for others in (0, 1, 2)], [0, 1, 19 + 2])
        self.assertEqual(fillings(Facts(LOG, longest=1), [], others=3), 4 ** 3)

    def test_fillings_in_their_order(self):
        facts = Facts(LOG, gone=[0])
        for rows, others in [([(0, (0, 3))], 1), ([((0, 3), 2), ((0, 3), 2)], 0), ([], 2), ([(1, 1), (0, 2)], 1)]:
            right = all_agreeing((LOG, [0], [], None, []), rows, others)
            number = fillings(facts, rows, others=others)
            self.assertEqual([nth_filling(facts, rows, k, others=others) for k in range(number)], right)
            self.assertEqual([filling_number(facts, rows, row, others=others) for row in right], list(range(number)))
        # Fillings that differ at any place of the list are different.
        self.assertEqual(nth_filling(facts, [], 3, others=2), [(0, 1), (0, 3)])
        self.assertNotEqual(filling_number(facts, [], [(0, 3), (0, 1)], others=2), 3)

    def test_a_conflict_or_a_barred_report(self):
        rows = [(facts, [(0, (0, 3))]) for facts in WITH_CONFLICT] + [(Facts(LOG, kept=[0]), [(0, (2, 3))])]
        for facts, known in rows:
            self.assertEqual(fillings(facts, known, others=2), 0)
            low, high = known[0][1]
            self.assertEqual(end_counts(facts, known, 0, others=2), [(value, 0) for value in range(low, high + 1)])
            with self.assertRaises(InvalidNumber):
                nth_filling(facts, known, 0, others=1)
            with self.assertRaises(InvalidResult):
                filling_number(facts, known, [(0, 2), (0, 3)], others=1)

    def test_numbers_that_no_filling_has(self):
        facts = Facts(LOG, gone=[0])
        for number in wrong_integers(0, 23) + [23.0, -24]:
            with self.assertRaises(InvalidNumber):
                nth_filling(facts, [(0, (0, 3))], number, others=1)
        for number in (-1, 1, True, False, None):
            with self.assertRaises(InvalidNumber):
                nth_filling(Facts([]), [], number)

    def test_values_that_are_no_agreeing_fillings(self):
        facts = Facts(LOG, gone=[0])
        for value in values_of_every_kind() + [[(0, 1), (0, 1)], [(0, 2)], [(1, 2), (0, 2)], [(0, 2), [0, 2]]]:
            with self.assertRaises(InvalidResult):
                filling_number(facts, [(0, (0, 3))], value, others=1)
            if not (type(value) is list and len(value) == 0):
                with self.assertRaises(InvalidResult):
                    filling_number(Facts([]), [], value)


class Chance(unittest.TestCase):
    def test_fractions(self):
        facts = Facts(LOG, gone=[0])
        self.assertEqual([chance(facts, [(0, 2)], i) for i in range(4)], [(1, 1), (0, 1), (0, 1), (0, 1)])
        self.assertEqual([chance(facts, [(0, (0, 3))], i) for i in range(4)], [(1, 1), (1, 2), (0, 1), (0, 1)])
        self.assertEqual(chance(Facts(LOG), [], 0), (0, 1))
        self.assertEqual(chance(Facts(LOG), [], 0, others=1), (1, 5))
        self.assertEqual(chance(Facts(LOG), [], 1, others=2), (9, 25))
        self.assertEqual(chance(Facts(LOG, kept=[0]), [], 0, others=3), (0, 1))
        self.assertTrue(all(type(part) is int for part in chance(facts, [(0, (0, 3))], 1)))

    def test_the_order_of_the_errors(self):
        facts = Facts(LOG, gone=[3])
        for value in wrong_integers(0, 3):
            with self.assertRaises(InvalidPosition):
                chance(facts, [], value)
            with self.assertRaises(InvalidNumber):
                chance(facts, [], value, others=-1)
            with self.assertRaises(InvalidReport):
                chance(facts, [(0, 4)], value, others=-1)
            with self.assertRaises(InvalidPosition):
                chance(Facts([]), [], value)

    def test_no_filling(self):
        facts = Facts(LOG, gone=[0, 1], kept=[2])
        rows = [(facts, [], 0, ("apart", [0])), (facts, [(0, 1)], 0, ("apart", [0])), (facts, [(2, 1)], 0, None)]
        for facts, known, others, paper in rows[:2]:
            with self.assertRaises(NoResult) as caught:
                chance(facts, known, 2, others=others)
            self.assertEqual(caught.exception.paper, paper)
        with self.assertRaises(NoResult) as caught:
            chance(Facts(LOG, kept=[0]), [(1, 1), ((0, 0), 3)], 0, others=5)
        self.assertEqual(caught.exception.paper, ("report", 1))
        for facts in WITH_CONFLICT:
            with self.assertRaises(NoResult) as caught:
                chance(facts, [], 0)
            self.assertEqual(caught.exception.paper, conflict(facts))
        with self.assertRaises(NoResult) as caught:
            chance(Facts(LONGER, gone=[0, 4], kept=[2]), [], 0, others=1)
        self.assertEqual(caught.exception.paper, ("apart", [0, 4]))


class EndCounts(unittest.TestCase):
    def test_each_value_of_the_unknown_end(self):
        facts = Facts(LOG, gone=[0])
        self.assertEqual(end_counts(facts, [(0, (0, 3))], 0, others=1), [(0, 2), (1, 2), (2, 10), (3, 10)])
        self.assertEqual(end_counts(facts, [(0, 3), ((0, 3), 2)], 1), [(0, 1), (1, 1), (2, 1), (3, 0)])
        self.assertEqual(end_counts(facts, [((0, 3), 2)], 0), [(0, 1), (1, 0), (2, 0), (3, 0)])
        self.assertEqual(end_counts(facts, [(2, (0, 3)), (0, 2)], 0), [(0, 0), (1, 0), (2, 1), (3, 1)])
        self.assertEqual(end_counts(Facts(LOG, kept=[0]), [(0, (1, 3))], 0), [(1, 1), (2, 0), (3, 0)])

    def test_two_known_ends(self):
        facts = Facts(LOG, gone=[0])
        self.assertEqual(end_counts(facts, [(0, 2), (1, (1, 2))], 0), [])
        self.assertEqual(end_counts(facts, [(0, 2), (1, (2, 2))], 1), [(2, 1)])
        self.assertEqual(end_counts(facts, [(0, 2), ((1, 1), 2)], 1), [(1, 1)])

    def test_wrong_indexes(self):
        for facts in [Facts(LOG), Facts(LOG, gone=[3])]:
            for index in wrong_integers(0, 1):
                with self.assertRaises(InvalidNumber):
                    end_counts(facts, [(0, 1), (0, (1, 2))], index)
            for index in values_of_every_kind():
                with self.assertRaises(InvalidNumber):
                    end_counts(facts, [], index, others=1)


class WrongReports(unittest.TestCase):
    def test_wrong_reports(self):
        for facts in [Facts(LOG), WITH_CONFLICT[0]]:
            for value in wrong_reports(4):
                for function, arguments, with_others in CALLS:
                    with self.assertRaises(InvalidReport):
                        function(facts, value, *arguments)
                    if with_others:
                        with self.assertRaises(InvalidReport):
                            function(facts, value, *arguments, others=-1)
        for value in [[(0, 0)], [(0, (0, 0))], None, ()]:
            for function, arguments, _ in CALLS:
                with self.assertRaises(InvalidReport):
                    function(Facts([]), value, *arguments)

    def test_wrong_others(self):
        for facts in [Facts(LOG), WITH_CONFLICT[0]]:
            for value in wrong_integers(0, 10 ** 50):
                if type(value) is not int or value < 0:
                    for function, _, with_others in CALLS:
                        arguments = [None] * (len(inspect.signature(function).parameters) - 3)
                        if with_others:
                            with self.assertRaises(InvalidNumber):
                                function(facts, [(0, 1)], *arguments, others=value)

    def test_others_on_the_empty_log(self):
        for function, arguments, with_others in CALLS:
            if with_others:
                for others in (1, 2, 10 ** 40, True, None):
                    with self.assertRaises(InvalidNumber):
                        function(Facts([]), [], *arguments, others=others)


class CallsByTurns(unittest.TestCase):
    CALLS = [([(0, (1, 6))], 1), ([], 2), ([((0, 4), 4), (0, 3), (4, (5, 7))], 0), ([((4, 4), 6), (0, (2, 3))], 1)]

    def answers(self, facts, rows, others):
        found = [possible(facts, rows, others=others), fewest_others(facts, rows), fillings(facts, rows, others=others)]
        found.extend(chance(facts, rows, i, others=others) for i in (0, 2, 6))
        found.extend(end_counts(facts, rows, k, others=others) for k in range(len(rows)))
        value = nth_filling(facts, rows, 1, others=others)
        return found + [value, filling_number(facts, rows, value, others=others)]

    def test_other_reports_on_one_object(self):
        facts = Facts(LONGER, gone=[0, 4], kept=[2])
        first = [self.answers(facts, *call) for call in self.CALLS]
        for _ in range(2):
            for call, right in zip(self.CALLS, first):
                self.assertEqual(self.answers(facts, *call), right)
                self.assertEqual(self.answers(Facts(LONGER, gone=(4, 0, 4), kept=[2]), *call), right)

    def test_what_is_returned_is_a_copy(self):
        facts = Facts(LONGER, gone=[0, 4], kept=[2])
        rows = [(0, (1, 6))]
        right = self.answers(facts, rows, 1)
        possible(facts, rows, others=1)[1].clear()
        possible(facts, rows)[1][1].clear()
        end_counts(facts, rows, 0, others=1).clear()
        nth_filling(facts, rows, 1, others=1).clear()
        self.assertEqual(self.answers(facts, rows, 1), right)
        self.assertEqual(possible(facts, rows), ("none", ("apart", [4])))

    def test_the_arguments_stay_as_they_were(self):
        facts = Facts(LONGER, gone=[0, 4], kept=[2])
        for rows, others in self.CALLS:
            given = list(rows)
            value = nth_filling(facts, given, 0, others=others)
            copy = list(value)
            filling_number(facts, given, value, others=others)
            agrees(facts, given, value, others=others)
            shows_none(facts, given, value, others=others)
            self.answers(facts, given, others)
            self.assertEqual((given, value), (rows, copy))
        self.assertTrue(facts == Facts(LONGER, gone=[0, 4], kept=[2]))


def ordered_lists(size):
    """By number of different ranges up to size, the lists of this length that have just these ranges in them."""
    row = [1] + [0] * size
    for _ in range(size):
        row = [0] + [kinds * (row[kinds] + row[kinds - 1]) for kinds in range(1, size + 1)]
    return row


class LongLogs(unittest.TestCase):
    def check(self, facts, rows, others):
        name, told = possible(facts, rows, others=others)
        self.assertEqual(name, "filling")
        self.assertIs(agrees(facts, rows, told, others=others), True)
        number = fillings(facts, rows, others=others)
        self.assertGreater(number, 0)
        least = fewest_others(facts, rows)
        self.assertLessEqual(least, others)
        for below in range(least):
            paper = possible(facts, rows, others=below)
            self.assertEqual((paper[0], paper[1][0]), ("none", "apart"))
            self.assertIs(shows_none(facts, rows, paper[1], others=below), True)
            self.assertEqual(fillings(facts, rows, others=below), 0)
        for k, row in enumerate(rows):
            found = end_counts(facts, rows, k, others=others)
            if type(row[0]) is tuple or type(row[1]) is tuple:
                self.assertEqual(sum(count for _, count in found), number)
        for i in range(0, len(facts), 3):
            # A filling marks a position, or all its ranges are allowed where the position is kept.
            marking = fillings(facts.plus(gone=[i]), rows, others=others)
            self.assertEqual(marking + fillings(facts.plus(kept=[i]), rows, others=others), number)
            top, bottom = chance(facts, rows, i, others=others)
            self.assertEqual(top * number, marking * bottom)

    def test_logs_of_40_records(self):
        rows = [
            (0, (5, 20)), ((3, 30), 33), (7, 12), ((0, 39), 39), (10, (10, 39)), ((20, 20), 28), (2, (2, 2)),
            ((14, 25), 30), (21, (30, 38)), ((0, 8), 16), (35, (36, 39)), ((1, 9), 9),
        ]
        self.check(Facts(log_of("abcd" * 10), gone=[0, 7, 18, 25], longest=26), rows, 6)
        self.check(Facts(log_of("a" * 40), gone=list(range(0, 39, 4)), kept=[6, 17]), rows[1:2] + rows[6:8], 6)
        self.check(Facts(log_of("abcdefghij" * 4), gone=[3, 3, 14], walls=[25]), rows[:3] + [(25, (26, 39))], 6)

    def test_reports_without_a_gone_position_multiply(self):
        facts = Facts(log_of("abcde" * 8), walls=[20])
        rows = [(0, (5, 25)), ((10, 20), 22), (30, 31)]
        self.assertEqual(fillings(facts, rows, others=6), 15 * 1 * 1 * 420 ** 6)

    def test_fillings_without_reports_and_sets_of_ranges(self):
        for facts in [Facts(log_of("abc" * 13), gone=[4, 20, 33], longest=15), Facts(log_of("ab" * 20), gone=[0])]:
            sets = sets_by_size(facts, 6)
            for others in range(7):
                lists = ordered_lists(others)
                right = sum(lists[kinds] * sets[kinds] for kinds in range(others + 1))
                self.assertEqual(fillings(facts, [], others=others), right)
            self.assertEqual(fewest_others(facts, []), fewest(facts))

    def test_a_log_of_16_records(self):
        facts = Facts(log_of("abcdabcdabcdabcd"), gone=[1, 6, 9], longest=12)
        rows = [(0, (3, 12)), ((2, 9), 10), (5, 11), ((0, 15), 15), (6, (6, 15)), ((7, 7), 14)]
        number = fillings(facts, rows, others=2)
        for place in (0, 1, number // 3, number // 2, number - 1):
            value = nth_filling(facts, rows, place, others=2)
            self.assertIs(agrees(facts, rows, value, others=2), True)
            self.assertEqual(filling_number(facts, rows, value, others=2), place)
        self.assertLess(nth_filling(facts, rows, 5, others=2), nth_filling(facts, rows, 6, others=2))
        with self.assertRaises(InvalidNumber):
            nth_filling(facts, rows, number, others=2)


if __name__ == "__main__":
    unittest.main()
