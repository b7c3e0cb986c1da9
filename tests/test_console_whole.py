"""Point 37: consoles command by command, against the functions that the commands need."""

import random
import unittest

from markthenpurge.console import Console
from markthenpurge.counting import counts
from markthenpurge.errors import InvalidCommand, InvalidNumber, InvalidPosition, InvalidReport, InvalidRules, NoPlan
from markthenpurge.errors import PurgeError
from markthenpurge.facts import Facts, greatest, least
from markthenpurge.ranges import fewest, most, ranges_in_few
from markthenpurge.reports import chance, fillings, possible
from markthenpurge.rounds import fewest_rounds
from markthenpurge.texts import show_log, show_ranges, show_reports
from tests.fillings import all_reports, some_reports
from tests.small import log_of


def spaced(numbers):
    return " ".join(str(number) for number in numbers) or "-"


class Known:
    """What a console was told, in plain lists, and the answers of the functions."""

    def __init__(self, log=()):
        self.log = list(log)
        self.gone, self.kept, self.walls, self.reports = [], [], [], []
        self.longest, self.others = None, 0

    def facts(self):
        return Facts(self.log, gone=self.gone, kept=self.kept, longest=self.longest, walls=self.walls)

    def answer(self, name, numbers):
        facts = self.facts()
        if name == "chance":
            top, bottom = chance(facts, self.reports, numbers[0], others=self.others)
            return str(top) + "/" + str(bottom)
        if name == "rounds":
            try:
                return str(fewest_rounds(self.log, numbers))
            except NoPlan:
                return "none"
        if name in ("fillings", "possible"):
            number = fillings(facts, self.reports, others=self.others)
            answer = possible(facts, self.reports, others=self.others)[0]
            return str(number) if name == "fillings" else {"filling": "yes", "none": "no"}[answer]
        functions = {
            "fewest": lambda: str(fewest(facts)), "most": lambda: str(most(facts)),
            "ranges": lambda: show_ranges(ranges_in_few(facts)), "least": lambda: spaced(least(facts)),
            "greatest": lambda: spaced(greatest(facts)), "counts": lambda: spaced(counts(facts)),
        }
        return functions[name]()


KINDS = ["gone", "gone", "kept", "longest", "wall", "report", "report", "others", "bad", "forget", "log"]
BAD = ["gone", "gone -1", "wall 1 2", "others", "fewest ", "report", "longest 01", "kept 0  1", "chance", "Fewest"]
QUESTIONS = ["fewest", "most", "ranges", "least", "greatest", "counts", "fillings", "possible"]


class Whole(unittest.TestCase):
    def answer_of(self, call):
        try:
            return call()
        except PurgeError as error:
            return (error.__class__, getattr(error, "paper", None))

    def compare(self, console, known):
        questions = [(name, []) for name in QUESTIONS]
        questions += [(name, [i]) for name in ("chance", "rounds") for i in range(len(known.log) + 1)]
        for name, numbers in questions:
            command = " ".join([name] + [str(number) for number in numbers])
            found = self.answer_of(lambda: console.execute(command))
            self.assertEqual(found, self.answer_of(lambda: known.answer(name, numbers)), command)

    def tell(self, draw, console, known):
        """One command that tells something, right or wrong; returns what is known behind it."""
        kind = draw.choice(KINDS)
        size = len(known.log)
        number = draw.randint(0, size + 1)
        if kind == "log" or kind == "forget":
            return self.begin(draw, console, known, kind)
        if kind == "bad":
            with self.assertRaises(InvalidCommand):
                console.execute(draw.choice(BAD))
        elif kind in ("gone", "kept"):
            numbers = [draw.randint(0, max(0, size - 1 + (draw.random() < 0.1))) for _ in range(draw.randint(1, 2))]
            wrong = None if all(i < size for i in numbers) else InvalidPosition
            self.execute(console, kind + " " + spaced(numbers), wrong)
            if wrong is None:
                getattr(known, kind).extend(numbers)
        elif kind == "longest":
            self.execute(console, "longest " + str(number), None if number > 0 else InvalidRules)
            known.longest = number if number > 0 else known.longest
        elif kind == "wall":
            right = 0 < number < size
            self.execute(console, "wall " + str(number), None if right else InvalidRules)
            known.walls.extend([number] if right else [])
        elif kind == "others":
            right = size > 0 or number == 0
            self.execute(console, "others " + str(number), None if right else InvalidNumber)
            known.others = number if right else known.others
        else:
            self.tell_report(draw, console, known)
        return known

    def tell_report(self, draw, console, known):
        size = len(known.log)
        if size > 0 and draw.random() < 0.8:
            report = some_reports(draw, known.log, 1)[0]
        else:
            report = draw.choice(all_reports(log_of("abcdefghi")[:size + 1]))
        largest = max(end if type(end) is int else end[1] for end in report)
        self.execute(console, "report " + show_reports([report]), None if largest < size else InvalidReport)
        if largest < size:
            known.reports.append(report)

    def begin(self, draw, console, known, kind):
        if kind == "forget":
            self.execute(console, "forget", None)
            return Known(known.log)
        log = [(draw.choice("abc"), draw.choice([None, 0, 7, -12])) for _ in range(draw.randint(0, 7))]
        self.execute(console, "log " + show_log(log), None)
        return Known(log)

    def execute(self, console, command, wrong):
        if wrong is None:
            self.assertEqual(console.execute(command), "ok")
        else:
            with self.assertRaises(wrong):
                console.execute(command)

    def test_command_by_command(self):
        draw = random.Random(151)
        for _ in range(60):
            console, known = Console(), Known()
            known = self.begin(draw, console, known, "log")
            for _ in range(12):
                known = self.tell(draw, console, known)
                self.compare(console, known)

    def test_two_consoles_by_turns(self):
        draw = random.Random(152)
        consoles = [Console(), Console()]
        all_known = [Known(), Known()]
        for _ in range(100):
            at = draw.choice([0, 1])
            all_known[at] = self.tell(draw, consoles[at], all_known[at])
            for console, known in zip(consoles, all_known):
                self.compare(console, known)

    def test_rounds_of_some_positions(self):
        draw = random.Random(153)
        for _ in range(200):
            console, known = Console(), Known()
            known = self.begin(draw, console, known, "log")
            if known.log:
                numbers = [draw.randrange(len(known.log)) for _ in range(draw.randint(1, 3))]
                self.assertEqual(console.execute("rounds " + spaced(numbers)), known.answer("rounds", numbers))


if __name__ == "__main__":
    unittest.main()
