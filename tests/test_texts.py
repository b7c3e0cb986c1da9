"""Point 36 and the interface of texts.py."""

import inspect
import random
import re
import unittest
from itertools import product

from markthenpurge import texts
from markthenpurge.errors import InvalidLog, InvalidText
from markthenpurge.facts import Facts
from markthenpurge.reports import fillings
from markthenpurge.texts import read_log, read_ranges, read_reports, show_log, show_ranges, show_reports
from tests.fillings import all_reports
from tests.small import all_ranges, log_of
from tests.wrong import Stubborn, values_of_every_kind, wrong_logs

NUMBER = "(?:0|[1-9][0-9]{0,29})"
RECORD = "[a-z]{1,8}(?:!|=(?:" + NUMBER + "|-[1-9][0-9]{0,29}))"
RANGE = NUMBER + "[.][.]" + NUMBER
REPORT = NUMBER + "(?:-" + NUMBER + ")?[.][.]" + NUMBER + "(?:-" + NUMBER + ")?"
SIGNS = " -.=!+0195azAZ_\n\t\u00e9\u0661"
LOGS = [
    ("-", []), ("x=1", [("x", 1)]), ("x!", [("x", None)]), ("x=0 y! x=-12", [("x", 0), ("y", None), ("x", -12)]),
    ("abcdefgh=" + "9" * 30, [("abcdefgh", 10 ** 30 - 1)]), ("z=-" + "9" * 30, [("z", 1 - 10 ** 30)]),
    ("a! a! a=10", [("a", None), ("a", None), ("a", 10)]),
]
RANGES = [
    ("-", []), ("0..0", [(0, 0)]), ("0..3 2..3 0..3", [(0, 3), (2, 3), (0, 3)]), ("10..199", [(10, 199)]),
    ("0.." + "9" * 30, [(0, 10 ** 30 - 1)]),
]
REPORTS = [
    ("-", []), ("0..0", [(0, 0)]), ("0..3-5", [(0, (3, 5))]), ("1-4..4", [((1, 4), 4)]), ("2-2..7", [((2, 2), 7)]),
    ("0..3 1-4..4 2..0-9", [(0, 3), ((1, 4), 4), (2, (0, 9))]), ("3..0-3", [(3, (0, 3))]), ("4-9..4", [((4, 9), 4)]),
    ("0..0-" + "9" * 30, [(0, (0, 10 ** 30 - 1))]),
]
PAIRS = [(show_log, read_log, LOGS), (show_ranges, read_ranges, RANGES), (show_reports, read_reports, REPORTS)]


def is_log_text(text):
    return text == "-" or all(re.fullmatch(RECORD, word) for word in text.split(" "))


def is_ranges_text(text):
    if text == "-":
        return True
    words = text.split(" ")
    if not all(re.fullmatch(RANGE, word) for word in words):
        return False
    return all(int(word.split("..")[0]) <= int(word.split("..")[1]) for word in words)


def is_reports_text(text):
    if text == "-":
        return True
    words = text.split(" ")
    return all(re.fullmatch(REPORT, word) for word in words) and all(is_report_word(word) for word in words)


def is_report_word(word):
    (low, high), (least, greatest) = [bounds_of(end) for end in word.split("..")]
    if word.count("-") > 1:
        return False
    return low <= high and least <= greatest and low <= greatest


def bounds_of(end):
    numbers = [int(part) for part in end.split("-")]
    return numbers[0], numbers[-1]


JUDGES = [(read_log, is_log_text), (read_ranges, is_ranges_text), (read_reports, is_reports_text)]


def bent_texts(text):
    """Texts that differ from this one at one place: a sign more, less, or another one."""
    found = [text[:at] + text[at + 1:] for at in range(len(text))]
    found += [text[:at] + sign + text[at:] for at in range(len(text) + 1) for sign in SIGNS]
    found += [text[:at] + sign + text[at + 1:] for at in range(len(text)) for sign in SIGNS]
    found += [text[:at] + text[at + 1] + text[at] + text[at + 2:] for at in range(len(text) - 1)]
    return found + [text + " " + text, text + text, text.upper(), text.strip("0"), "(" + text + ")"]


class Interface(unittest.TestCase):
    def test_names_and_parameters(self):
        names = {
            "show_log": ["log"], "show_ranges": ["ranges"], "show_reports": ["reports"], "read_log": ["text"],
            "read_ranges": ["text"], "read_reports": ["text"],
        }
        for name, parameters in names.items():
            function = getattr(texts, name)
            self.assertEqual(list(inspect.signature(function).parameters), parameters)
            self.assertEqual(function.__module__, "markthenpurge.texts")

    def test_all_arguments_by_name(self):
        self.assertEqual(show_log(log=[("x", 1)]), "x=1")
        self.assertEqual((show_ranges(ranges=[(0, 1)]), show_reports(reports=[(0, (1, 2))])), ("0..1", "0..1-2"))
        self.assertEqual(read_log(text="x=1"), [("x", 1)])
        self.assertEqual((read_ranges(text="0..1"), read_reports(text="0..1-2")), ([(0, 1)], [(0, (1, 2))]))


class ThereAndBack(unittest.TestCase):
    def test_chosen_texts(self):
        for show, read, rows in PAIRS:
            for text, value in rows:
                self.assertEqual(show(value), text)
                self.assertEqual(read(text), value)

    def test_kinds_of_what_is_read(self):
        for _, read, rows in PAIRS:
            for text, value in rows:
                found = read(text)
                self.assertIs(type(found), list)
                for row, right in zip(found, value):
                    self.assertEqual((type(row), [type(part) for part in row]), (tuple, [type(part) for part in right]))

    def test_drawn_values(self):
        chance = random.Random(141)
        for _ in range(300):
            size = chance.randint(0, 8)
            values = [None, chance.randint(-3, 3), chance.randint(-10 ** 30 + 1, 10 ** 30 - 1)]
            letters = "abcdefghijklmnopqrstuvwxyz"
            keys = ["".join(chance.choice(letters) for _ in range(chance.randint(1, 8))) for _ in range(3)]
            log = [(chance.choice(keys), chance.choice(values)) for _ in range(size)]
            self.assertTrue(is_log_text(show_log(log)))
            self.assertEqual(read_log(show_log(log)), log)

    def test_all_ranges_and_reports_of_a_log(self):
        log = log_of("abcdefghijkl")
        ranges = all_ranges(log)
        self.assertEqual(read_ranges(show_ranges(ranges)), ranges)
        self.assertEqual(read_reports(show_reports(ranges)), ranges)
        reports = all_reports(log_of("abcde"))
        self.assertEqual(read_reports(show_reports(reports)), reports)
        self.assertTrue(all(read_reports(show_reports([report])) == [report] for report in reports))
        # What is read is a list of reports of a log that is long enough.
        self.assertGreater(fillings(Facts(log_of("abcde")), read_reports(show_reports(reports[::9]))), 0)

    def test_wrong_logs(self):
        for value in wrong_logs():
            with self.assertRaises(InvalidLog):
                show_log(value)

    def test_the_arguments_stay_as_they_were(self):
        for show, read, rows in PAIRS:
            for text, value in rows:
                given = list(value)
                self.assertEqual(show(given), text)
                self.assertEqual(given, value)
                read(text).append(5)
                self.assertEqual(read(text), value)


class Refused(unittest.TestCase):
    def check(self, text):
        for read, is_text in JUDGES:
            if is_text(text):
                self.assertIs(type(read(text)), list)
            else:
                with self.assertRaises(InvalidText, msg=repr(text)):
                    read(text)

    def test_values_that_are_no_strings(self):
        for value in values_of_every_kind() + [Stubborn(), b"-", ["-"], bytearray(b"x=1"), ("0..1",)]:
            for read, is_text in JUDGES:
                if type(value) is not str or not is_text(value):
                    with self.assertRaises(InvalidText):
                        read(value)

    def test_bent_texts(self):
        for _, _, rows in PAIRS:
            for text, _ in rows:
                for bent in bent_texts(text):
                    self.check(bent)

    def test_chosen_strings(self):
        rows = [
            "", " ", "- ", " -", "--", "- -", "x", "x=", "=1", "!", "x!!", "x=1!", "x!1", "x=!", "x==1", "x=+1", "x=01",
            "x=-0", "x=-01", "x=00", "x= 1", "x =1", "x=1  y=2", "x=1 ", " x=1", "x=1\n", "x=1\ty=2", "X=1", "x1=1",
            "abcdefghi=1", "x=1.0", "x=1_0", "x=" + "9" * 31, "x=-" + "9" * 31, "x=" + "9" * 5000, "x=\u0661", "x=-",
            "x=None", "x=- 1", "\u00e9=1", "-=1", "x=1 -", "- x=1", "x=1,y=2", "x!=1", "x=0x1", "x=1e3",
            "0.1", "0...1", "0..", "..1", "..", "0..1..2", "1..0", "0..1 1..0", "01..1", "0..01", "-1..1", "0..-1",
            "+0..1", "0..+1", "0 ..1", "0.. 1", "0..1 ", " 0..1", "0..1  1..2", "0..1\n", "a..b", "0..1,1..2",
            "0.." + "9" * 31, "9" * 31 + ".." + "9" * 31, "0..1-", "0..-1-2", "0-..1", "-0..1", "0--1..2", "0-1-2..3",
            "0..2-1", "2-1..3", "0-1..2-3", "5..0-4", "3-5..2", "0-1..1-1", "0..1-02", "00-1..2", "0..1-2-3",
        ]
        for text in rows:
            for read, _ in JUDGES:
                with self.assertRaises(InvalidText, msg=text):
                    read(text)

    def test_every_sign_at_every_place(self):
        for text in ["x=1", "x!", "xy=-10", "0..1", "10..12", "0-1..2", "0..1-2", "-"]:
            for sign in [chr(number) for number in range(400)] + ["\u0660", "\uff11", "\u00b2", "\u2013"]:
                for at in range(len(text) + 1):
                    self.check(text[:at] + sign + text[at:])
                    self.check(text[:at] + sign + text[at + 1:])

    def test_ranges_are_no_reports_with_unknown_ends(self):
        for text in ["0..1-2", "0-1..2", "0..1 0..1-1", "2-2..3"]:
            with self.assertRaises(InvalidText):
                read_ranges(text)
            self.assertEqual(show_reports(read_reports(text)), text)

    def test_all_short_strings(self):
        for size in range(5):
            for signs in product("-.01a= !", repeat=size):
                self.check("".join(signs))

    def test_drawn_strings(self):
        chance = random.Random(142)
        for _ in range(6000):
            self.check("".join(chance.choice("-..0012 =!ab") for _ in range(chance.randint(4, 9))))

    def test_long_strings(self):
        text = " ".join(["abcdefgh=-" + "1" * 19] * 200)
        self.assertEqual(len(text), 200 * 30 - 1)
        self.assertEqual(show_log(read_log(text)), text)
        for bent in (text + " ", text[:3000] + " " + text[3000:], text.replace(" ", "  ", 1), text[:-1] + "x"):
            with self.assertRaises(InvalidText):
                read_log(bent)
        for read in (read_log, read_ranges, read_reports):
            for sign in "-0.a= !":
                with self.assertRaises(InvalidText):
                    read(sign * 6000)


if __name__ == "__main__":
    unittest.main()
