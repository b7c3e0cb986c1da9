"""Texts of logs, ranges and reports, one for each value, and the values back from them."""

from markthenpurge.checks import is_key
from markthenpurge.errors import InvalidText
from markthenpurge.logs import check_log
from markthenpurge.reports import is_report

DIGITS = "0123456789"
NOTHING = "-"


def joined(words):
    """The words as one text, with the text of nothing if there is none."""
    return " ".join(words) if words else NOTHING


def split_text(text):
    """The words of a text, none if it is the text of nothing."""
    if not isinstance(text, str):
        raise InvalidText("a text must be a string")
    return [] if text == NOTHING else text.split(" ")


def is_number(text):
    """Whether the text is that of an integer from 0 on, of at most 30 digits and without leading zeros."""
    if not 1 <= len(text) <= 30 or not all([sign in DIGITS for sign in text]):
        return False
    return text == "0" or text[0] != "0"


def is_value(text):
    """Whether the text is that of an integer."""
    if text[:1] == "-":
        return is_number(text[1:]) and text != "-0"
    return is_number(text)


def show_record(record):
    key, value = record
    return key + "!" if value is None else key + "=" + str(value)


def show_log(log):
    """The text of a log."""
    check_log(log)
    return joined([show_record(record) for record in log])


def show_end(end):
    """The text of a position, or of a tuple (low, high)."""
    if isinstance(end, tuple):
        return str(end[0]) + "-" + str(end[1])
    return str(end)


def show_pairs(pairs):
    return joined([show_end(first) + ".." + show_end(last) for first, last in pairs])


def show_ranges(ranges):
    """The text of ranges."""
    return show_pairs(ranges)


def show_reports(reports):
    """The text of reports."""
    return show_pairs(reports)


def read_record(word):
    """The record of a word."""
    if is_key(word[:-1]) and word[-1] == "!":
        return (word[:-1], None)
    key, _, number = word.partition("=")
    if not is_key(key) or not is_value(number):
        raise InvalidText("a record must be KEY=VALUE or KEY!")
    return (key, int(number))


def read_log(text):
    """The log of a text."""
    return [read_record(word) for word in split_text(text)]


def read_end(text):
    """The position of a text, or the tuple (low, high)."""
    low, dash, high = text.partition("-")
    if not is_number(low) or dash != "" and not is_number(high):
        raise InvalidText("two ends with .. between them must stand there, each a position or LOW-HIGH")
    return int(low) if dash == "" else (int(low), int(high))


def read_report(word):
    """The report of a word."""
    first, _, last = word.partition("..")
    report = (read_end(first), read_end(last))
    # All integers of a text are positions of a log that is long enough.
    if not is_report(report, 10 ** 30):
        raise InvalidText("the ends must be those of a report")
    return report


def read_range(word):
    """The range of a word, which is a report of two known ends."""
    a, b = read_report(word)
    if isinstance(a, tuple) or isinstance(b, tuple):
        raise InvalidText("the ends of a range must be known")
    return (a, b)


def read_ranges(text):
    """The ranges of a text."""
    return [read_range(word) for word in split_text(text)]


def read_reports(text):
    """The reports of a text."""
    return [read_report(word) for word in split_text(text)]
