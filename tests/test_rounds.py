"""Points 28, 29, 30, 31 and 32 and the interface of rounds.py, on chosen logs."""

import inspect
import unittest

from markthenpurge import rounds as module
from markthenpurge.errors import InvalidBound, InvalidLog, InvalidNumber, InvalidPosition, InvalidRange, NoPlan
from markthenpurge.rounds import after, fewest_rounds, is_steady, longest_chain, reachable, shows_no_plan, shows_rounds
from markthenpurge.rounds import steady, windows
from tests.papers import bent_parts
from tests.plans import is_order_by_words, shows_no_plan_by_words, shows_rounds_by_words
from tests.small import log_of, next_of
from tests.wrong import Stubborn, values_of_every_kind, wrong_bounds, wrong_integers, wrong_logs, wrong_positions
from tests.wrong import wrong_rounds

LOG = [("x", 1), ("y", 2), ("y", 3), ("x", 4), ("y", 5)]
# Arcs (0, 3), (1, 2), (2, 5), (3, 4): 0 strictly waits for 2, it for 3, and 3 waits for 0.
CIRCLE = log_of("abbaab")
# Each function of gone positions with the arguments behind them, and whether it has bounds.
CALLS = [
    (steady, [], True), (shows_no_plan, [None], True), (fewest_rounds, [], True), (longest_chain, [], True),
    (shows_rounds, [None, None], True), (windows, [None], True), (reachable, [], False),
]
RAISING = [(fewest_rounds, []), (longest_chain, []), (windows, [5]), (windows, [None])]


class Interface(unittest.TestCase):
    def test_names_and_parameters(self):
        names = {
            "after": ["log", "rounds"], "is_steady": ["log", "rounds"], "steady": ["log", "gone", "bounds"],
            "shows_no_plan": ["log", "gone", "value", "bounds"], "fewest_rounds": ["log", "gone", "bounds"],
            "longest_chain": ["log", "gone", "bounds"], "shows_rounds": ["log", "gone", "number", "value", "bounds"],
            "windows": ["log", "gone", "many", "bounds"], "reachable": ["log", "gone"],
        }
        for name, parameters in names.items():
            found = inspect.signature(getattr(module, name)).parameters
            self.assertEqual(list(found), parameters)
            self.assertEqual(getattr(module, name).__module__, "markthenpurge.rounds")
            if "bounds" in parameters:
                self.assertEqual((found["bounds"].kind, found["bounds"].default), (inspect.Parameter.KEYWORD_ONLY, ()))

    def test_all_arguments_by_name(self):
        gone = [0, 2]
        self.assertEqual(after(log=LOG, rounds=[[(0, 4)]]), [[0, 1, 2]])
        self.assertIs(is_steady(log=LOG, rounds=[[(0, 4)]]), True)
        self.assertEqual(steady(log=LOG, gone=gone, bounds=[]), ("plan", [[(2, 4)], [(0, 3)]]))
        self.assertIs(shows_no_plan(log=LOG, gone=gone, value=("newest", 0), bounds=()), False)
        self.assertEqual(fewest_rounds(log=LOG, gone=gone, bounds=()), 2)
        self.assertEqual(longest_chain(log=LOG, gone=gone, bounds=()), [0, 2])
        self.assertIs(shows_rounds(log=LOG, gone=gone, number=2, value=[0, 2], bounds=()), True)
        self.assertEqual(windows(log=LOG, gone=gone, many=2, bounds=()), [(0, 2, 2), (2, 1, 1)])
        self.assertEqual(reachable(log=LOG, gone=gone), [2, 0])

    def test_bounds_by_name_alone(self):
        for function, arguments, with_bounds in CALLS:
            with self.assertRaises(TypeError):
                function(LOG, [0], *arguments, ())
            if not with_bounds:
                with self.assertRaises(TypeError):
                    function(LOG, [0], *arguments, bounds=())


class After(unittest.TestCase):
    def test_what_each_round_removes(self):
        self.assertEqual(after(LOG, [[(1, 2)], [(0, 3), (2, 4)]]), [[1], [0, 2]])
        self.assertEqual(after(LOG, [[(0, 3), (2, 4)], [(1, 2)]]), [[0, 1, 2], []])
        self.assertEqual(after(LOG, [[(0, 3)], [(0, 4)]]), [[0, 1], [2]])

    def test_a_removed_record_counts_no_longer(self):
        log = log_of("aaaa")
        self.assertEqual(after(log, [[(1, 2)], [(0, 2)], [(0, 1)], [(2, 3)]]), [[1], [0], [], [2]])
        self.assertEqual(after(log, [[(1, 3)], [(0, 2)], [(0, 3)]]), [[1, 2], [], [0]])
        self.assertEqual(after(log, [[(0, 1)], [(0, 2)]]), [[0], [1]])
        # Within one round marked records still count.
        self.assertEqual(after(log, [[(1, 2), (0, 1)]]), [[0, 1]])

    def test_ends_of_ranges_at_removed_positions(self):
        self.assertEqual(after(log_of("abab"), [[(0, 2)], [(0, 3)]]), [[0], [1]])
        self.assertEqual(after(log_of("abbab"), [[(1, 2)], [(1, 4)]]), [[1], [2]])

    def test_empty_rounds(self):
        self.assertEqual(after(LOG, []), [])
        self.assertEqual(after(LOG, [[], [(1, 2)], []]), [[], [1], []])
        self.assertEqual((after([], []), after([], [[], []])), ([], [[], []]))

    def test_steady_rounds(self):
        self.assertIs(is_steady(LOG, []), True)
        self.assertIs(is_steady([], [[], []]), True)
        self.assertIs(is_steady(LOG, [[(0, 4)], []]), True)
        # One read at 3 has the answers 1, 0, None in turn.
        self.assertIs(is_steady(log_of("aaba"), [[(1, 3)], [(0, 3)]]), False)
        self.assertIs(is_steady(log_of("aaba"), [[(0, 1)], [(1, 3)]]), True)
        self.assertIs(is_steady(log_of("aaba"), [[(0, 3)]]), True)
        self.assertIs(is_steady(log_of("aaaa"), [[(0, 1)], [(1, 2)], [(2, 3)]]), True)
        self.assertIs(is_steady(log_of("aaaa"), [[(0, 1)], [(2, 3)], [(1, 3)]]), False)

    def test_wrong_rounds(self):
        for function in (after, is_steady):
            for value in wrong_rounds(5):
                with self.assertRaises(InvalidRange):
                    function(LOG, value)
            for value in [[[(0, 0)]], [[], [(0, 0)]], None]:
                with self.assertRaises(InvalidRange):
                    function([], value)
            for value in wrong_logs():
                with self.assertRaises(InvalidLog):
                    function(value, None)


class Steady(unittest.TestCase):
    def check(self, log, gone, number, bounds=()):
        name, told = steady(log, gone, bounds=bounds)
        self.assertEqual((name, len(told)), ("plan", number))
        removed = after(log, told)
        self.assertEqual(sorted(i for row in removed for i in row), sorted(set(gone)))
        self.assertIs(is_steady(log, told), True)
        for i, low, high in bounds:
            self.assertTrue(any(i in row for row in removed[low - 1:high]))
        self.assertEqual(fewest_rounds(log, gone, bounds=bounds), number)
        chain = longest_chain(log, gone, bounds=bounds)
        self.assertIs(shows_rounds(log, gone, number, chain, bounds=bounds), True)
        self.assertTrue(shows_rounds_by_words(log, gone, bounds, number, chain))
        found = windows(log, gone, number, bounds=bounds)
        self.assertEqual([row[:2] for row in found], [(i, rank_of(removed, i)) for i in sorted(set(gone))])

    def check_none(self, log, gone, name, bounds=()):
        answer, paper = steady(log, gone, bounds=bounds)
        self.assertEqual((answer, paper[0]), ("none", name))
        self.assertIs(shows_no_plan(log, gone, paper, bounds=bounds), True)
        self.assertTrue(shows_no_plan_by_words(log, gone, bounds, paper))
        for function, arguments in RAISING:
            with self.assertRaises(NoPlan) as caught:
                function(log, gone, *arguments, bounds=bounds)
            self.assertIs(shows_no_plan(log, gone, caught.exception.paper, bounds=bounds), True)
        return paper

    def test_the_example(self):
        self.assertEqual(fewest_rounds(LOG, [0, 2]), 2)
        self.check(LOG, [0, 2], 2)
        self.check(LOG, (2, 0, 2), 2)

    def test_nothing_gone(self):
        for log in ([], LOG):
            self.assertEqual(steady(log, []), ("plan", []))
            self.assertEqual((fewest_rounds(log, []), longest_chain(log, ()), windows(log, [], 3)), (0, [], []))
            self.assertIs(shows_rounds(log, [], 0, []), True)
            self.assertIs(shows_rounds(log, [], 1, []), False)
            self.assertEqual(reachable(log, []), [])

    def test_one_round(self):
        self.check(LOG, [0, 1, 2], 1)
        self.check(LOG, [1], 1)
        self.check(log_of("aaaaaa"), [0, 1, 2, 3, 4], 1)
        self.check(log_of("aaaaaa"), [1, 3], 1)
        self.check(log_of("abba"), [1], 1)

    def test_more_rounds(self):
        self.check(log_of("abbab"), [0, 2], 2)
        self.check(log_of("aabbab"), [0, 1, 3], 2)
        self.check(log_of("abbaaba"), [0, 2, 4], 3)
        self.check(log_of("abbaabbaaba"), [0, 2, 4, 6, 8], 5)
        self.assertEqual(longest_chain(log_of("abbaaba"), [0, 2, 4]), [0, 2, 4])
        self.assertEqual(steady(log_of("abbaaba"), [0, 2, 4]), ("plan", [[(4, 6)], [(2, 5)], [(0, 3)]]))

    def test_bounds(self):
        self.check(LOG, [0, 2], 3, [(2, 2, None)])
        self.check(LOG, [0, 2], 5, [(0, 2, None), (0, 5, None), (0, 1, 7)])
        self.check(LOG, [0, 2], 2, [(0, 1, 2), (2, 1, 1)])
        self.check(LOG, [1], 4, [(1, 4, 4)])
        self.check(LOG, [1], 300, ((1, 300, None), (1, 20, 400)))
        self.assertEqual(steady(LOG, [1], bounds=[(1, 3, None)]), ("plan", [[], [], [(1, 2)]]))
        self.assertEqual(windows(LOG, [0, 2], 4, bounds=[(2, 2, 3), (0, 1, 4)]), [(0, 3, 4), (2, 2, 3)])
        self.assertEqual(windows(LOG, [0, 2], 9, bounds=[(2, 1, 3), (0, 1, 8), (0, 1, 6)]), [(0, 2, 6), (2, 1, 3)])
        self.assertEqual(windows(LOG, [0, 2], 2), [(0, 2, 2), (2, 1, 1)])
        self.assertEqual(windows(LOG, [0, 2], 10 ** 30), [(0, 2, 10 ** 30), (2, 1, 10 ** 30 - 1)])

    def test_the_papers(self):
        self.assertEqual(self.check_none(LOG, [1, 3], "newest"), ("newest", 3))
        self.assertEqual(self.check_none(LOG, [0], "pair"), ("pair", 0, 1, 2))
        self.assertEqual(self.check_none(LOG, [0, 2], "late", [(0, 1, 1)]), ("late", [0, 2]))
        self.assertEqual(self.check_none(LOG, [0, 2], "late", [(0, 1, 4), (2, 4, None)]), ("late", [0, 2]))
        self.assertEqual(self.check_none(LOG, [1], "late", [(1, 3, None), (1, 1, 2)]), ("late", [1]))

    def test_circles(self):
        self.assertEqual(self.check_none(CIRCLE, [0, 2, 3], "circle"), ("circle", [0, 2, 3, 0]))
        self.check_none(log_of("abcbacab"), [4, 0, 3], "circle")
        self.check_none(log_of("aabbaab"), [0, 1, 3, 4], "circle")
        for chain in [[2, 3, 0, 2], [0, 2, 3, 0, 2, 3, 0]]:
            self.assertIs(shows_no_plan(CIRCLE, [0, 2, 3], ("circle", chain)), True)
        for chain in [[0, 3, 2, 0], [0, 2, 3], [0], [], [3, 0], [0, 2, 0]]:
            self.assertIs(shows_no_plan(CIRCLE, [0, 2, 3], ("circle", chain)), False)
        self.assertIs(shows_no_plan(CIRCLE, [0, 2], ("circle", [0, 2, 3, 0])), False)

    def test_more_than_one_form_shows_it(self):
        bounds = [(0, 1, 1), (2, 3, None)]
        for value in [("late", [0]), ("late", [0, 2])]:
            self.assertIs(shows_no_plan(LOG, [0, 2, 4], value, bounds=bounds), value == ("late", [0, 2]))
        self.assertIs(shows_no_plan(LOG, [0, 2, 4], ("newest", 4), bounds=bounds), True)
        self.assertIs(shows_no_plan(LOG, [0, 2, 4], ("newest", 3), bounds=bounds), False)
        self.assertIs(shows_no_plan(LOG, [0, 4], ("pair", 0, 1, 2), bounds=[]), True)
        self.assertIs(shows_no_plan(LOG, [0, 4], ("pair", 0, 2, 1), bounds=[]), False)
        self.assertIs(shows_no_plan(LOG, [0, 2], ("pair", 0, 1, 2), bounds=[]), False)

    def test_errors_in_their_order(self):
        for value in wrong_logs():
            for function, arguments, _ in CALLS:
                with self.assertRaises(InvalidLog):
                    function(value, None, *arguments)
        for value in wrong_positions(5):
            for function, arguments, with_bounds in CALLS:
                with self.assertRaises(InvalidPosition):
                    function(LOG, value, *arguments)
                if with_bounds:
                    with self.assertRaises(InvalidPosition):
                        function(LOG, value, *arguments, bounds=None)
        for gone in [[0, 2], [0, 4], [0]]:
            for value in wrong_bounds(gone, 3) + wrong_bounds(gone, 1):
                for function, arguments, with_bounds in CALLS:
                    if with_bounds:
                        with self.assertRaises(InvalidBound):
                            function(LOG, gone, *arguments, bounds=value)

    def test_bounds_where_nothing_is_gone(self):
        for value in [[(0, 1, None)], ((0, 1, 1),), None, {}]:
            for function, arguments, with_bounds in CALLS:
                if with_bounds:
                    for log in ([], LOG):
                        with self.assertRaises(InvalidBound):
                            function(log, [], *arguments, bounds=value)

    def test_wrong_numbers_of_rounds(self):
        for many in wrong_integers(2, 10 ** 50):
            if type(many) is not int or many < 2:
                with self.assertRaises(InvalidNumber):
                    windows(LOG, [0, 2], many)
                with self.assertRaises(NoPlan):
                    windows(LOG, [0, 2], many, bounds=[(0, 1, 1)])
        for many in (-1, True, False, None, 0.0):
            with self.assertRaises(InvalidNumber):
                windows([], [], many)
        with self.assertRaises(InvalidNumber):
            windows(LOG, [1], 3, bounds=[(1, 4, None)])


def rank_of(removed, i):
    return [i in row for row in removed].index(True) + 1


class Judges(unittest.TestCase):
    GONE = [0, 2, 4]
    BOUNDS = [(0, 1, 1), (0, 1, 3), (2, 2, None)]

    def test_any_value(self):
        for value in values_of_every_kind() + [Stubborn()]:
            whole = type(value) is int
            for name in ("newest", "late", "circle", "pair"):
                right = name == "newest" and whole and value == 4
                self.assertIs(shows_no_plan(LOG, self.GONE, (name, value), bounds=self.BOUNDS), right)
            self.assertIs(shows_no_plan(LOG, self.GONE, value, bounds=self.BOUNDS), False)
            right = type(value) is str and value == "newest"
            self.assertIs(shows_no_plan(LOG, self.GONE, (value, 4), bounds=self.BOUNDS), right)
            self.assertIs(shows_no_plan(LOG, [0], ("pair", value, 1, 2)), whole and value == 0)
            self.assertIs(shows_no_plan(LOG, [0], ("pair", 0, value, 2)), whole and value == 1)
            self.assertIs(shows_no_plan(LOG, [0], ("pair", 0, 1, value)), whole and value == 2)
            self.assertIs(shows_no_plan(LOG, self.GONE, ("late", [0, value]), bounds=self.BOUNDS), whole and value == 2)
            self.assertIs(shows_no_plan(LOG, self.GONE, ("late", [value, 2]), bounds=self.BOUNDS), whole and value == 0)
            self.assertIs(shows_rounds(LOG, [0, 2], 2, value), False)
            self.assertIs(shows_rounds(LOG, [0, 2], 2, [0, value]), whole and value == 2)
            self.assertIs(shows_rounds(LOG, [0, 2], value, [0, 2]), whole and value == 2)
            self.assertIs(shows_rounds(LOG, [], value, []), whole and value == 0)
            self.assertIs(shows_rounds(LOG, [], 0, value), type(value) is list and len(value) == 0)

    def test_chains_that_show_less(self):
        self.assertIs(shows_rounds(LOG, [0, 2], 1, [0]), True)
        self.assertIs(shows_rounds(LOG, [0, 2], 1, [2]), True)
        self.assertIs(shows_rounds(LOG, [0, 2], 1, [2, 0]), False)
        self.assertIs(shows_rounds(LOG, [0, 2], 3, [2], bounds=[(2, 3, None), (2, 2, None)]), True)
        self.assertIs(shows_rounds(LOG, [0, 2], 4, [0, 2], bounds=[(2, 3, None), (0, 9, None)]), True)
        self.assertIs(shows_rounds(LOG, [0, 2], 0, []), False)
        self.assertIs(shows_rounds(LOG, [0, 2], 2, (0, 2)), False)
        # A chain is judged by itself, also if there is no plan.
        self.assertIs(shows_rounds(LOG, [0, 2, 3], 2, [0, 2]), True)
        self.assertIs(shows_rounds(LOG, [0], 1, [0]), True)

    def test_long_chains(self):
        log = log_of("a" * 200)
        gone = list(range(199))
        chain = gone[::-1] + [0]
        self.assertIs(shows_rounds(log, gone, 1, gone[::-1]), True)
        self.assertIs(shows_rounds(log, gone, 1, chain), False)
        circle = [0, 2, 0] * 300
        self.assertIs(shows_no_plan(LOG, [0, 2], ("circle", circle)), False)

    def test_bent_papers(self):
        rows = [
            (LOG, [0, 2, 4], self.BOUNDS, ("newest", 4)), (LOG, [0], [], ("pair", 0, 1, 2)),
            (LOG, [0, 2, 4], self.BOUNDS, ("late", [0, 2])), (LOG, [1], [(1, 3, None), (1, 1, 2)], ("late", [1])),
        ]
        rows.append((CIRCLE, [0, 2, 3], [], ("circle", [0, 2, 3, 0])))
        for log, gone, bounds, paper in rows:
            self.assertIs(shows_no_plan(log, gone, paper, bounds=bounds), True)
            for value in bent_parts(paper):
                found = shows_no_plan(log, gone, value, bounds=bounds)
                self.assertIs(found, shows_no_plan_by_words(log, gone, bounds, value), value)

    def test_bent_chains(self):
        for number in (1, 2, 3):
            for value in bent_parts([0, 2]):
                found = shows_rounds(LOG, [0, 2], number, value)
                self.assertIs(found, shows_rounds_by_words(LOG, [0, 2], [], number, value), value)


class Reachable(unittest.TestCase):
    def test_rounds_that_are_not_steady_reach_more(self):
        log = log_of("abbab")
        self.assertEqual(steady(log, [0])[1], ("pair", 0, 1, 2))
        self.assertIsNone(reachable(log, [0]))
        log = log_of("aabba")
        self.assertEqual(steady(log, [1])[0], "none")
        self.assertIsNone(reachable(log, [1]))
        for log, gone in [(CIRCLE, [0, 2, 3]), (log_of("abbcaacb"), [4, 0, 3, 2, 0])]:
            self.assertEqual(steady(log, gone)[1][0], "circle")
            self.assertTrue(is_order_by_words(log, gone, reachable(log, gone)))
        self.assertIsNone(reachable(log_of("abcbacab"), [0, 3, 4]))

    def test_newest_positions_are_never_reached(self):
        for gone in [[3], [4], [1, 2, 4], [0, 1, 2, 3]]:
            self.assertIsNone(reachable(LOG, gone))

    def test_ten_records(self):
        log = log_of("aaaaaaaaaa")
        self.assertTrue(is_order_by_words(log, list(range(9)), reachable(log, list(range(9)))))
        log = log_of("abcdeabcde")
        self.assertTrue(is_order_by_words(log, [0, 1, 2, 3, 4], reachable(log, [0, 1, 2, 3, 4])))
        log = log_of("abcbcbcabc")
        gone = [i for i in range(10) if next_of(log, i) is not None]
        self.assertTrue(is_order_by_words(log, gone, reachable(log, gone[::-1])))
        self.assertIsNone(reachable(log, [0, 1, 3]))


class CallsByTurns(unittest.TestCase):
    ROWS = [([0, 2], ()), ([0, 2], [(2, 2, None)]), ([1], [(1, 2, 3)]), ([0, 1, 2], ()), ([0, 2], [(0, 1, 1)])]

    def answers(self, log, gone, bounds):
        found = [steady(log, gone, bounds=bounds), reachable(log, gone)]
        if found[0][0] == "plan":
            number = fewest_rounds(log, gone, bounds=bounds)
            found += [number, longest_chain(log, gone, bounds=bounds), windows(log, gone, number + 1, bounds=bounds)]
            found += [after(log, found[0][1]), is_steady(log, found[0][1])]
        return found

    def test_other_positions_and_bounds_on_one_log(self):
        first = [self.answers(LOG, *row) for row in self.ROWS]
        for _ in range(2):
            self.assertEqual([self.answers(LOG, *row) for row in self.ROWS], first)
            self.assertEqual([self.answers(list(LOG), tuple(gone), bounds) for gone, bounds in self.ROWS], first)

    def test_what_is_returned_is_a_copy(self):
        right = self.answers(LOG, [0, 2], [(2, 2, None)])
        plan = steady(LOG, [0, 2], bounds=[(2, 2, None)])[1]
        removed = after(LOG, plan)
        for rows in plan + removed + [plan, removed]:
            rows.clear()
        for rows in self.answers(LOG, [0, 2], [(2, 2, None)]):
            if type(rows) is list:
                rows.clear()
        self.assertEqual(self.answers(LOG, [0, 2], [(2, 2, None)]), right)
        paper = steady(LOG, [0, 2], bounds=[(0, 1, 1)])[1]
        paper[1].clear()
        self.assertEqual(steady(LOG, [0, 2], bounds=[(0, 1, 1)]), ("none", ("late", [0, 2])))

    def test_the_arguments_stay_as_they_were(self):
        log, gone, bounds = list(LOG), [2, 0, 2], [(2, 2, None), (0, 1, 9)]
        self.answers(log, gone, bounds)
        plan = [[(1, 2), (0, 1)], [], [(0, 3)]]
        after(log, plan)
        is_steady(log, plan)
        value = ("late", [0, 2])
        shows_no_plan(log, gone, value, bounds=bounds)
        shows_rounds(log, gone, 3, value[1], bounds=bounds)
        self.assertEqual((log, gone, bounds), (LOG, [2, 0, 2], [(2, 2, None), (0, 1, 9)]))
        self.assertEqual((plan, value), ([[(1, 2), (0, 1)], [], [(0, 3)]], ("late", [0, 2])))


class LongLogs(unittest.TestCase):
    def check(self, log, gone, bounds):
        name, told = steady(log, gone, bounds=bounds)
        self.assertEqual(name, "plan")
        removed = after(log, told)
        self.assertEqual(sorted(i for row in removed for i in row), sorted(set(gone)))
        self.assertIs(is_steady(log, told), True)
        number = fewest_rounds(log, gone, bounds=bounds)
        self.assertEqual(len(told), number)
        chain = longest_chain(log, gone, bounds=bounds)
        self.assertIs(shows_rounds(log, gone, number, chain, bounds=bounds), True)
        found = windows(log, gone, number + 5, bounds=bounds)
        self.assertEqual([(i, first) for i, first, _ in found], [(i, rank_of(removed, i)) for i in sorted(set(gone))])
        for i, low, high in found[::17]:
            for at in {low, (low + high) // 2, high}:
                more = list(bounds) + [(i, at, at)]
                self.assertLessEqual(fewest_rounds(log, gone, bounds=more), number + 5)
            for more in ((i, 1, low - 1), (i, high + 1, high + 1)):
                if more[1] <= more[2] and more[1] > 0:
                    answer = steady(log, gone, bounds=list(bounds) + [more])
                    self.assertTrue(answer[0] == "none" or len(answer[1]) > number + 5)
                    if answer[0] == "none":
                        self.assertIs(shows_no_plan(log, gone, answer[1], bounds=list(bounds) + [more]), True)

    def test_logs_of_200_records(self):
        self.check(log_of("a" * 200), list(range(199)), [(199 - 3 * k, k + 1, 300) for k in range(1, 61)])
        self.check(log_of("ab" * 100), list(range(198)), [])
        self.check(log_of("abcdefgh" * 25), list(range(0, 100)), [(5, 7, None), (50, 2, 260)])
        half = list(range(100))
        nested = [("".join(chr(97 + k // 26) + chr(97 + k % 26)), 1) for k in half + half[::-1]]
        self.check(nested, half[40:], [(99, 240, None)])

    def test_many_rounds(self):
        log, gone = log_of("abba" * 49 + "aba"), list(range(0, 198, 2))
        self.assertEqual(fewest_rounds(log, gone), 99)
        self.assertEqual(longest_chain(log, gone), gone)
        self.check(log, gone, [])
        self.check(log, gone, [(i, 201, None) for i in gone[-1:]])

    def test_300_rounds_of_100_ranges(self):
        log = log_of("abcdefgh" * 25)
        rounds = [[((7 * k + 3 * m) % 150, (7 * k + 3 * m) % 150 + k % 40) for m in range(100)] for k in range(300)]
        removed = after(log, rounds)
        self.assertEqual(len(removed), 300)
        self.assertIn(is_steady(log, rounds), (True, False))
        flat = [i for row in removed for i in row]
        self.assertEqual(len(flat), len(set(flat)))
        self.assertTrue(all(next_of(log, i) is not None for i in flat))

    def test_circles_of_long_logs(self):
        log, gone = log_of("abba" * 49 + "aba"), list(range(0, 198, 2)) + [3]
        answer = steady(log, gone)
        self.assertEqual((answer[0], answer[1][0]), ("none", "circle"))
        self.assertIs(shows_no_plan(log, gone, answer[1]), True)
        self.assertLessEqual(len(answer[1][1]), 201)


if __name__ == "__main__":
    unittest.main()
