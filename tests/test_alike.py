"""Points 25, 26 and 27 and the interface of alike.py, on chosen logs."""

import inspect
import unittest

from markthenpurge import alike
from markthenpurge.alike import alike_count, are_alike, difference, fore, near, nth_alike, pattern, unlike_count
from markthenpurge.counting import counts
from markthenpurge.errors import InvalidLog, InvalidNumber
from markthenpurge.facts import Facts, is_result
from tests.small import log_of
from tests.wrong import values_of_every_kind, wrong_integers, wrong_logs


def key_name(number):
    letters = "abcdefghijklmnopqrstuvwxyz"
    return letters[number // 26] + letters[number % 26]


def log_with(numbers):
    """The log with this pattern."""
    return [(key_name(number), None) for number in numbers]


class Interface(unittest.TestCase):
    def test_names_and_parameters(self):
        names = {
            "pattern": ["log"], "are_alike": ["log", "other"], "difference": ["log", "other"], "near": ["log"],
            "fore": ["log"], "alike_count": ["log"], "nth_alike": ["log", "number"], "unlike_count": ["records"],
        }
        for name, parameters in names.items():
            function = getattr(alike, name)
            self.assertEqual(list(inspect.signature(function).parameters), parameters)
            self.assertEqual(function.__module__, "markthenpurge.alike")

    def test_all_arguments_by_name(self):
        log, other = log_of("aaab"), log_of("abab")
        self.assertEqual(pattern(log=log), [0, 0, 0, 1])
        self.assertIs(are_alike(log=log, other=other), True)
        self.assertIsNone(difference(log=log, other=other))
        self.assertEqual((near(log=log), fore(log=log)), ([0, 0, 0, 1], [0, 1, 0, 1]))
        self.assertEqual((alike_count(log=log), nth_alike(log=log, number=1)), (3, [0, 0, 1, 0]))
        self.assertEqual(unlike_count(records=3), 4)


class Pattern(unittest.TestCase):
    def test_keys_in_the_order_of_their_first_records(self):
        log = [("zz", 4), ("a", None), ("zz", 4), ("m", 0), ("a", 7), ("zz", None)]
        self.assertEqual(pattern(log), [0, 1, 0, 2, 1, 0])
        self.assertEqual([pattern([]), pattern(log[:1]), pattern(log_of("abc"))], [[], [0], [0, 1, 2]])


class Alike(unittest.TestCase):
    def test_the_example(self):
        self.assertEqual(fore([("x", 1), ("x", 2), ("x", 3), ("y", 4)]), [0, 1, 0, 1])

    def test_logs_that_are_alike(self):
        for one, other in [("aaab", "abab"), ("aaab", "aaba"), ("", ""), ("a", "b"), ("abc", "cba"), ("abba", "xyyx")]:
            self.assertIs(are_alike(log_of(one), log_of(other)), True)
            self.assertIsNone(difference(log_of(one), log_of(other)))
        self.assertIs(are_alike([("x", 1), ("x", None)], [("y", None), ("y", -5)]), True)

    def test_logs_that_are_not_alike(self):
        rows = [("aa", "ab"), ("abba", "abab"), ("aab", "abb"), ("aaab", "abaa"), ("abcabc", "abcacb"), ("aaa", "aab")]
        for one, other in rows:
            logs = [log_of(one), log_of(other)]
            self.assertIs(are_alike(*logs), False)
            self.assertIs(are_alike(*logs[::-1]), False)
            for pair in (logs, logs[::-1]):
                index, positions = difference(*pair)
                self.assertIs(type(difference(*pair)), tuple)
                self.assertIs(is_result(Facts(pair[index]), positions), True)
                self.assertIs(is_result(Facts(pair[1 - index]), positions), False)

    def test_which_log_has_the_result(self):
        self.assertEqual(difference(log_of("aa"), log_of("ab")), (0, [0]))
        self.assertEqual(difference(log_of("ab"), log_of("aa")), (1, [0]))
        self.assertEqual(difference(log_of("abab"), log_of("abba")), (0, [0]))
        self.assertEqual(difference(log_of("abba"), log_of("abab")), (1, [0]))

    def test_other_numbers_of_records(self):
        for one, other in [("", "a"), ("ab", "abc"), ("aa", "aaa")]:
            for pair in [(log_of(one), log_of(other)), (log_of(other), log_of(one))]:
                self.assertIs(are_alike(*pair), False)
                with self.assertRaises(InvalidLog):
                    difference(*pair)


class Numbers(unittest.TestCase):
    def test_all_patterns_of_a_log(self):
        log = log_of("aaab")
        rows = [[0, 0, 0, 1], [0, 0, 1, 0], [0, 1, 0, 1]]
        for other in ["aaab", "aaba", "abab"]:
            self.assertEqual(alike_count(log_of(other)), 3)
            self.assertEqual([nth_alike(log_of(other), number) for number in range(3)], rows)
            self.assertEqual((near(log), fore(log)), (rows[0], rows[-1]))

    def test_one_pattern_alone(self):
        for word in ["", "a", "abc", "aaaa", "abba", "aab"]:
            log = log_of(word)
            number = alike_count(log)
            self.assertEqual(nth_alike(log, 0), near(log))
            self.assertEqual(nth_alike(log, number - 1), fore(log))
        self.assertEqual([alike_count(log_of(word)) for word in ["", "a", "abc", "aaaa", "abba", "aab"]], [1] * 5 + [2])
        self.assertEqual((near([]), fore([]), nth_alike([], 0)), ([], [], []))

    def test_numbers_that_no_pattern_has(self):
        for number in wrong_integers(0, 2) + [2.0, -3]:
            with self.assertRaises(InvalidNumber):
                nth_alike(log_of("aaab"), number)
        for number in [1, -1, True, False, None]:
            with self.assertRaises(InvalidNumber):
                nth_alike([], number)

    def test_unlike_count(self):
        self.assertEqual([unlike_count(records) for records in range(8)], [1, 1, 2, 4, 9, 23, 66, 210])
        for value in wrong_integers(0, 10 ** 50):
            if type(value) is not int or value < 0:
                with self.assertRaises(InvalidNumber):
                    unlike_count(value)


class WrongLogs(unittest.TestCase):
    def test_wrong_logs(self):
        for value in wrong_logs():
            for function in (pattern, near, fore, alike_count):
                with self.assertRaises(InvalidLog):
                    function(value)
            with self.assertRaises(InvalidLog):
                nth_alike(value, None)
            for function in (are_alike, difference):
                for pair in [(value, []), ([], value), (value, value), (log_of("ab"), value), (value, log_of("ab"))]:
                    with self.assertRaises(InvalidLog):
                        function(*pair)

    def test_any_value(self):
        for value in values_of_every_kind():
            if not (type(value) is list and len(value) == 0):
                for function in (are_alike, difference):
                    with self.assertRaises(InvalidLog):
                        function([], value)


class CallsByTurns(unittest.TestCase):
    def answers(self, log, other):
        found = [pattern(log), are_alike(log, other), difference(log, other), near(log), fore(log)]
        return found + [alike_count(log), nth_alike(log, 0), nth_alike(log, alike_count(log) - 1), unlike_count(3)]

    def test_other_logs(self):
        logs = [log_of("abcabb"), log_of("aaaabb"), log_of("abcacb"), log_of("abccba")]
        pairs = [(log, other) for log in logs for other in logs]
        first = [self.answers(*pair) for pair in pairs]
        for _ in range(2):
            self.assertEqual([self.answers(*pair) for pair in pairs], first)
        self.assertEqual(logs, [log_of("abcabb"), log_of("aaaabb"), log_of("abcacb"), log_of("abccba")])

    def test_what_is_returned_is_a_copy(self):
        log, other = log_of("abcabb"), log_of("aaaabb")
        right = self.answers(log, other)
        for rows in [pattern(log), near(log), fore(log), nth_alike(log, 0), difference(log, other)[1]]:
            rows.clear()
        self.assertEqual(self.answers(log, other), right)


class LongLogs(unittest.TestCase):
    def check(self, log):
        number = alike_count(log)
        self.assertGreater(number, 0)
        keys = len({key for key, _ in log})
        self.assertEqual(fore(log)[:keys], list(range(keys)))
        self.assertEqual((nth_alike(log, 0), nth_alike(log, number - 1)), (near(log), fore(log)))
        for place in (0, number // 3, number // 2, number - 1):
            found = nth_alike(log, place)
            other = log_with(found)
            self.assertEqual(pattern(other), found)
            self.assertIs(are_alike(log, other), True)
            self.assertIsNone(difference(log, other))
            self.assertEqual((alike_count(other), near(other), fore(other)), (number, near(log), fore(log)))
        if number > 1:
            self.assertLess(rights(nth_alike(log, number // 2 - 1)), rights(nth_alike(log, number // 2)))
        with self.assertRaises(InvalidNumber):
            nth_alike(log, number)

    def test_logs_of_200_records(self):
        self.check(log_of("a" * 200))
        self.check(log_of("ab" * 100))
        self.check(log_of("a" * 150 + "b" + "a" * 49))
        self.check(log_of("abcdefghijklmnopqrstuvwxyz" * 7 + "abcdefgh" + "xywvutsrqp"))
        self.check(log_with([i * i % 37 for i in range(200)]))
        self.check(log_with(list(range(100)) + list(range(100))[::-1]))
        self.check(log_with(range(200)))

    def test_logs_that_differ_at_the_end(self):
        one, other = log_of("abc" * 66 + "ab"), log_of("abc" * 66 + "ba")
        for pair in [(one, other), (other, one)]:
            index, positions = difference(*pair)
            self.assertIs(is_result(Facts(pair[index]), positions), True)
            self.assertIs(is_result(Facts(pair[1 - index]), positions), False)

    def test_the_same_numbers_of_results(self):
        log = log_of("abcabacbabcc" * 3)
        other = log_with(nth_alike(log, alike_count(log) // 2))
        self.assertEqual(counts(Facts(log, gone=[4], kept=[9])), counts(Facts(other, gone=[4], kept=[9])))

    def test_unlike_count_of_200_records(self):
        self.assertEqual(unlike_count(200), sum(keys ** (200 - keys) for keys in range(1, 201)))


def rights(numbers):
    """The right ends of the logs with this pattern."""
    return [i for i, number in enumerate(numbers) if number in numbers[:i]]


if __name__ == "__main__":
    unittest.main()
