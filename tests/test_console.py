"""Point 37 and the interface of console.py, on chosen commands."""

import inspect
import unittest

from markthenpurge import console as module
from markthenpurge.console import Console
from markthenpurge.errors import InvalidCommand, InvalidNumber, InvalidPosition, InvalidReport, InvalidRules
from markthenpurge.errors import InvalidText, NoResult, PurgeError
from markthenpurge.facts import Facts, conflict
from markthenpurge.texts import read_log
from tests.wrong import Stubborn, values_of_every_kind

# Arcs (0, 2), (1, 4), (2, 5).
TEXT = "x=1 y=2 x=3 z=4 y=5 x=6"
ASKED = ["fewest", "most", "ranges", "least", "greatest", "counts", "fillings", "possible", "chance 0", "rounds 0"]


def told(*commands):
    """A console that was told these."""
    console = Console()
    for command in commands:
        if console.execute(command) != "ok":
            raise AssertionError(command)
    return console


def answers(console):
    """What a console answers to all questions, errors included."""
    found = []
    for command in ASKED:
        try:
            found.append(console.execute(command))
        except PurgeError as error:
            found.append((error.__class__.__name__, getattr(error, "paper", None)))
    return found


class Interface(unittest.TestCase):
    def test_names_and_parameters(self):
        self.assertEqual(list(inspect.signature(Console).parameters), [])
        self.assertEqual(list(inspect.signature(vars(Console)["execute"]).parameters), ["self", "command"])
        self.assertEqual(Console.__module__, module.__name__)
        self.assertEqual(Console().execute(command="forget"), "ok")


class Commands(unittest.TestCase):
    def test_the_empty_log_at_first(self):
        right = ["0", "0", "-", "-", "-", "1", "1", "yes", ("InvalidPosition", None), ("InvalidPosition", None)]
        self.assertEqual(answers(Console()), right)
        self.assertEqual(answers(told("log -")), right)
        self.assertEqual(answers(told("log x=1", "log -")), right)

    def test_a_log(self):
        self.assertEqual(answers(told("log " + TEXT)), ["0", "2", "-", "-", "0 1 2", "1 6 1", "1", "yes", "0/1", "1"])

    def test_gone_and_kept(self):
        console = told("log " + TEXT, "gone 0", "kept 1", "gone 2 0 2")
        right = ["2", "2", "0..2 2..5", "0 2", "0 2", "0 0 1", "0", "no"]
        self.assertEqual(answers(console)[:8], right)
        self.assertEqual(answers(told("log " + TEXT, "kept 1", "gone 0 2"))[:8], right)

    def test_longest_is_set(self):
        console = told("log " + TEXT, "longest 3")
        self.assertEqual(console.execute("counts"), "1 1")
        console.execute("longest 5")
        self.assertEqual(console.execute("counts"), "1 5 2")
        console.execute("longest " + "9" * 30)
        self.assertEqual(console.execute("counts"), "1 6 1")

    def test_walls_are_added(self):
        console = told("log " + TEXT, "wall 2")
        self.assertEqual((console.execute("counts"), console.execute("greatest")), ("1 1", "2"))
        console.execute("wall 5")
        self.assertEqual((console.execute("counts"), console.execute("greatest")), ("1", "-"))
        console.execute("longest 6")
        self.assertEqual(console.execute("greatest"), "-")

    def test_reports_are_added_and_others_set(self):
        console = told("log x=1 y=2 x=3 y=4", "gone 0", "report 0..0-3", "others 1")
        self.assertEqual((console.execute("fillings"), console.execute("chance 1")), ("24", "7/12"))
        console.execute("others 0")
        self.assertEqual((console.execute("fillings"), console.execute("chance 0")), ("2", "1/1"))
        console.execute("report 1-1..2")
        self.assertEqual(console.execute("fillings"), "2")
        console.execute("report 0..1")
        console.execute("report 0..1")
        self.assertEqual((console.execute("fillings"), console.execute("chance 3")), ("2", "0/1"))

    def test_possible(self):
        console = told("log x=1 y=2 x=3 y=4", "gone 0")
        self.assertEqual(console.execute("possible"), "no")
        console.execute("others 1")
        self.assertEqual(console.execute("possible"), "yes")
        console.execute("gone 3")
        self.assertEqual(console.execute("possible"), "no")

    def test_forget(self):
        console = told("log " + TEXT, "gone 0", "kept 1", "longest 5", "wall 3", "report 0..2", "others 2", "forget")
        self.assertEqual(answers(console), answers(told("log " + TEXT)))

    def test_a_new_log_forgets_all_else(self):
        console = told("log " + TEXT, "gone 0", "kept 1", "longest 5", "wall 3", "report 0..2", "others 2")
        console.execute("log a=1 a! a=0")
        self.assertEqual(answers(console), answers(told("log a=1 a! a=0")))
        self.assertEqual(answers(console)[4:7], ["0 1", "1 3", "1"])

    def test_rounds(self):
        console = told("log x=1 y=2 y=3 x=4 y=5")
        rows = ["rounds 0 2", "rounds 2 0 2", "rounds 0", "rounds 3", "rounds 1", "rounds 0 1 2"]
        self.assertEqual([console.execute(row) for row in rows], ["2", "2", "none", "none", "1", "1"])
        # What the console knows of gone positions and rules does not matter to it.
        console = told("log x=1 y=2 y=3 x=4 y=5", "gone 3", "kept 2", "longest 1", "wall 3")
        self.assertEqual([console.execute(row) for row in rows], ["2", "2", "none", "none", "1", "1"])

    def test_a_conflict(self):
        console = told("log " + TEXT, "gone 0 3")
        right = conflict(Facts(read_log(TEXT), gone=[0, 3]))
        for command in ("fewest", "most", "ranges", "least", "greatest", "chance 1"):
            with self.assertRaises(NoResult) as caught:
                console.execute(command)
            self.assertEqual(caught.exception.paper, right)
        self.assertEqual([console.execute(command) for command in ("counts", "fillings", "possible")], ["-", "0", "no"])
        self.assertEqual(console.execute("rounds 0 1 2"), "1")

    def test_no_filling_has_a_chance(self):
        with self.assertRaises(NoResult) as caught:
            told("log x=1 x=2", "gone 0").execute("chance 0")
        self.assertEqual(caught.exception.paper, ("apart", [0]))


class Refused(unittest.TestCase):
    STATE = ("log " + TEXT, "gone 0", "kept 3", "longest 5", "wall 5", "report 0..2-4", "others 1")

    def check(self, error, command, state=STATE):
        console = told(*state)
        before = answers(console)
        for _ in range(2):
            with self.assertRaises(error, msg=command if type(command) is str else None):
                console.execute(command)
            self.assertEqual(answers(console), before)

    def test_values_that_are_no_strings(self):
        for value in values_of_every_kind() + [Stubborn(), b"fewest", ["fewest"], ("log", "-"), bytearray(b"most")]:
            self.check(InvalidCommand, value)

    def test_strings_that_have_the_form_of_no_command(self):
        rows = [
            "", " ", "log", "gone", "kept", "longest", "wall", "report", "others", "chance", "rounds", "gone ", "kept ",
            "longest ", "wall ", "report ", "others ", "chance ", "rounds ", "forget ", "fewest ", "forget 1",
            "fewest 0", "most 1", "ranges -", "possible yes", " fewest", "Fewest", "FEWEST", "fewest\n", "\nfewest",
            "fewest most", "Log x=1", "LOG x=1", " log x=1", "log\tx=1", "log\nx=1", "gone  0", "gone 0 ", "gone 0  1",
            "gone 01", "gone +1", "gone -1", "gone 1.0", "gone x", "gone 0,1", "gone 0 x", "gone x 0", "gone \u0661",
            "gone 0 01", "gone 0\t1", "gone 0\n", "gone " + "9" * 31, "gone 0 " + "9" * 31, "kept 00", "kept 0 -1",
            "longest 1 2", "longest -1", "longest None", "longest none", "longest 03", "longest +3", "longest  3",
            "wall 1 2", "wall 01", "wall x", "wall -1", "others 1 1", "others -1", "others 01", "others x", "others  1",
            "others " + "9" * 31, "report  0..1", "report 0..1 ", "report 0..1 1..2", "report 0..1  1..2", "report",
            "chance 0 1", "chance x", "chance -1", "chance 00", "chance  0", "rounds 0  1", "rounds 00", "rounds -1",
            "rounds 0 ", "rounds none", "walls 1", "gones 0", "least 0", "count", "filling", "help", "undo", "0",
            "fewest;most", "Gone 0", "loG x=1", "report0..1", "gone0", "log:x=1", "fewest" * 1000, "gone " * 1200,
        ]
        for command in rows:
            self.check(InvalidCommand, command)

    def test_texts_of_no_log(self):
        rows = ["", " ", "x", "x=1 ", " x=1", "x=1  y=2", "x=01", "x=+1", "X=1", "x=-0", "x=1!", "- ", "x=1\n", "--"]
        for text in rows + ["x=" + "9" * 31, "abcdefghi!", "0..1", "x=1 -"]:
            self.check(InvalidText, "log " + text)
            self.check(InvalidText, "log " + text, ())

    def test_texts_of_no_report(self):
        rows = ["-", "x", "0", "0..", "..1", "1..0", "0-1..1-2", "0..01", "+0..1", "0...1", "0..1-", "2-1..3", "5..0-4"]
        for word in rows + ["0..1,1..2", "0..1\n", "0..1\t", "\t0..1", "0..1\t1..2", "0.." + "9" * 31, "--", "-0..1"]:
            self.check(InvalidText, "report " + word)
            self.check(InvalidText, "report " + word, ())

    def test_positions(self):
        for word in ("6", "7", "9" * 30):
            for name in ("gone", "kept", "rounds"):
                self.check(InvalidPosition, name + " " + word)
                self.check(InvalidPosition, name + " 0 " + word + " 1")
            self.check(InvalidPosition, "chance " + word)
        for name in ("gone", "kept", "rounds", "chance"):
            self.check(InvalidPosition, name + " 0", ())

    def test_rules(self):
        for command in ("longest 0", "wall 0", "wall 6", "wall " + "9" * 30):
            self.check(InvalidRules, command)
        for command in ("longest 0", "wall 0", "wall 1"):
            self.check(InvalidRules, command, ())
        self.check(InvalidRules, "wall 1", ("log x=1",))

    def test_reports_that_are_none_of_the_log(self):
        for word in ("0..6", "6..6", "0..3-6", "0-3..6", "4..5-" + "9" * 30):
            self.check(InvalidReport, "report " + word)
        for word in ("0..0", "0..0-0"):
            self.check(InvalidReport, "report " + word, ())

    def test_others_of_the_empty_log(self):
        for word in ("1", "2", "9" * 30):
            self.check(InvalidNumber, "others " + word, ())
        self.assertEqual(Console().execute("others 0"), "ok")

    def test_what_is_refused_is_not_added(self):
        console = told("log " + TEXT, "gone 0")
        for command in ("gone 2 9", "kept 2 9", "wall 9", "longest 0", "report 0..9", "others -1", "log x"):
            with self.assertRaises(PurgeError):
                console.execute(command)
        self.assertEqual(answers(console), answers(told("log " + TEXT, "gone 0")))


class ByTurns(unittest.TestCase):
    def test_two_consoles(self):
        one, other = Console(), Console()
        one.execute("log " + TEXT)
        self.assertEqual(answers(other), answers(Console()))
        other.execute("log x=1 x=2 x=3")
        one.execute("gone 0")
        other.execute("others 1")
        one.execute("report 0..2")
        self.assertEqual(answers(one), answers(told("log " + TEXT, "gone 0", "report 0..2")))
        self.assertEqual(answers(other), answers(told("log x=1 x=2 x=3", "others 1")))
        self.assertEqual(answers(one), answers(told("log " + TEXT, "gone 0", "report 0..2")))

    def test_questions_change_nothing(self):
        console = told(*Refused.STATE)
        first = answers(console)
        for _ in range(3):
            self.assertEqual(answers(console), first)
            self.assertEqual(console.execute("rounds 0 1"), told(*Refused.STATE).execute("rounds 0 1"))


class LongLogs(unittest.TestCase):
    def test_24_records(self):
        console = told("log " + " ".join("abcd"[i * i % 4] + "=" + str(i) for i in range(24)), "gone 0 9", "longest 14")
        for word in ("0..2-9", "3-8..12", "5..11", "0-23..23"):
            console.execute("report " + word)
        console.execute("others 6")
        self.assertEqual(console.execute("possible"), "yes")
        self.assertGreater(int(console.execute("fillings")), 10 ** 12)
        top, bottom = console.execute("chance 1").split("/")
        self.assertLessEqual(int(top), int(bottom))
        numbers = [int(word) for word in console.execute("counts").split(" ")]
        self.assertEqual(len(numbers) - 1, int(console.execute("most")))
        self.assertEqual(len(console.execute("ranges").split(" ")), int(console.execute("fewest")))


if __name__ == "__main__":
    unittest.main()
