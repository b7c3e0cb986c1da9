"""A console: commands that say what is known of a log, and commands that ask what follows from it."""

from markthenpurge.counting import counts
from markthenpurge.errors import InvalidCommand, InvalidText
from markthenpurge.facts import Facts, greatest, least
from markthenpurge.ranges import fewest, most, ranges_in_few
from markthenpurge.reports import chance, check_known, fillings, possible
from markthenpurge.rounds import steady
from markthenpurge.texts import is_number, joined, read_log, read_reports, show_ranges

BARE = ("forget", "fewest", "most", "ranges", "least", "greatest", "counts", "fillings", "possible")
WITH_NUMBER = ("longest", "wall", "others", "chance")
WITH_NUMBERS = ("gone", "kept", "rounds")


def has_form(name, gap, rest):
    """Whether a command of this name may have this gap and this rest behind the name."""
    if gap == "":
        return name in BARE
    if name == "log":
        return True
    words = rest.split(" ")
    if name == "report":
        return len(words) == 1 and rest != ""
    if not all([is_number(word) for word in words]):
        return False
    return name in WITH_NUMBERS or name in WITH_NUMBER and len(words) == 1


def show_numbers(numbers):
    return joined([str(number) for number in numbers])


def read_one_report(word):
    """The report of a text of one report."""
    found = read_reports(word)
    if len(found) != 1:
        raise InvalidText("a report must be given")
    return found[0]


def show_rounds(log, gone):
    """The fewest steady rounds for these positions, or none."""
    name, told = steady(log, gone)
    return "none" if name == "none" else str(len(told))


class Console:
    """A log, facts, reports and others, which commands change and ask."""

    def __init__(self):
        self._facts = Facts([])
        self._reports = []
        self._others = 0

    def execute(self, command):
        """Carry out a command; returns ok or the answer."""
        if not isinstance(command, str):
            raise InvalidCommand("a command must be a string")
        name, gap, rest = command.partition(" ")
        if not has_form(name, gap, rest):
            raise InvalidCommand("there is no command of this form")
        if name == "log":
            self._begin(Facts(read_log(rest)))
            return "ok"
        if name == "forget":
            self._begin(Facts(self._facts.log))
            return "ok"
        if name == "report":
            self._know([*self._reports, read_one_report(rest)], self._others)
            return "ok"
        if name in BARE:
            return self._answer(name)
        return self._execute_with(name, [int(word) for word in rest.split(" ")])

    def _begin(self, facts):
        """Know nothing but these facts."""
        self._facts = facts
        self._reports = []
        self._others = 0

    def _know(self, reports, others):
        """Know these reports and others, if they may be."""
        check_known(self._facts, reports, others)
        self._reports = reports
        self._others = others

    def _rule(self, longest, walls):
        """Know these rules, if they may be."""
        facts = self._facts
        self._facts = Facts(facts.log, gone=facts.gone, kept=facts.kept, longest=longest, walls=walls)

    def _execute_with(self, name, numbers):
        """Carry out a command with numbers."""
        facts = self._facts
        if name == "rounds":
            return show_rounds(facts.log, numbers)
        if name == "chance":
            top, bottom = chance(facts, self._reports, numbers[0], others=self._others)
            return str(top) + "/" + str(bottom)
        if name == "gone":
            self._facts = facts.plus(gone=numbers)
        elif name == "kept":
            self._facts = facts.plus(kept=numbers)
        elif name == "longest":
            self._rule(numbers[0], facts.walls)
        elif name == "wall":
            self._rule(facts.longest, [*facts.walls, numbers[0]])
        else:
            self._know(self._reports, numbers[0])
        return "ok"

    def _answer(self, name):
        """The answer to a command without numbers."""
        if name == "fewest":
            return str(fewest(self._facts))
        if name == "most":
            return str(most(self._facts))
        if name == "ranges":
            return show_ranges(ranges_in_few(self._facts))
        if name == "least":
            return show_numbers(least(self._facts))
        if name == "greatest":
            return show_numbers(greatest(self._facts))
        if name == "counts":
            return show_numbers(counts(self._facts))
        if name == "fillings":
            return str(fillings(self._facts, self._reports, others=self._others))
        return "yes" if possible(self._facts, self._reports, others=self._others)[0] == "filling" else "no"
