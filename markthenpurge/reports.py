"""Ranges known in part: the fillings of reports that agree with facts, their number, and why there are none."""

from math import comb, gcd

from markthenpurge.checks import is_integer_from, is_integer_within, is_position, is_range, is_tuple_of
from markthenpurge.counting import share_of
from markthenpurge.errors import InvalidNumber, InvalidPosition, InvalidReport, InvalidResult, NoResult
from markthenpurge.facts import conflict, ends_of, nexts_of, shows_conflict
from markthenpurge.logs import positions_marked
from markthenpurge.ranges import are_apart, flags_of, outermost, ranges_from_left


def is_end(value, many):
    """Whether the value is an end of a report: a position, or a tuple (low, high) of two."""
    return is_position(value, many) or is_tuple_of(value, 2) and is_range(value[0], value[1], many)


def span_of(end):
    """The least and the greatest position of an end."""
    return end if isinstance(end, tuple) else (end, end)


def is_report(value, many):
    """Whether the value is a report of a log with this many records."""
    if not is_tuple_of(value, 2) or not all([is_end(end, many) for end in value]):
        return False
    first, last = value
    if isinstance(first, tuple) and isinstance(last, tuple):
        return False
    # If there is any choice, then also the one from the least first position to the greatest last one.
    return span_of(first)[0] <= span_of(last)[1]


def check_reports(facts, reports):
    """Raise InvalidReport for all but a list of reports of the log of the facts."""
    if not isinstance(reports, list) or not all([is_report(part, len(facts)) for part in reports]):
        raise InvalidReport("reports must be a list of reports of the log")


def check_known(facts, reports, others):
    """Raise the errors of reports and others."""
    check_reports(facts, reports)
    if not is_integer_from(others, 0) or others > 0 and len(facts) == 0:
        raise InvalidNumber("others must be an integer from 0 on, and 0 on an empty log")


def choices_of(report):
    """The choices of a report, ascending."""
    low, high = span_of(report[0])
    least, greatest = span_of(report[1])
    return [(a, b) for a in range(low, high + 1) for b in range(max(a, least), greatest + 1)]


def choices_allowed(ends, report):
    """The allowed choices of a report, ascending."""
    return [(a, b) for a, b in choices_of(report) if b <= ends[a]]


def longest_choice(ends, report):
    """The allowed choice in which all other allowed ones of the report lie, None if none is allowed."""
    choices = choices_allowed(ends, report)
    if choices == []:
        return None
    return (min([a for a, _ in choices]), max([b for _, b in choices]))


def longest_choices(facts, reports):
    ends = ends_of(facts)
    return [longest_choice(ends, report) for report in reports]


def marked_by_choices(facts, reports):
    """The positions that some allowed choice of some report marks."""
    rows = [row for row in longest_choices(facts, reports) if row is not None]
    return positions_marked(nexts_of(facts), rows)


def ranges_beside(facts, reports):
    """Fewest allowed ranges that mark all gone positions that no allowed choice of any report marks."""
    seen = set(marked_by_choices(facts, reports))
    left = [i for i in facts.gone if i not in seen]
    return ranges_from_left(nexts_of(facts), ends_of(facts), left)


def bar_of_reports(facts, reports):
    """The paper that bars all fillings, however many others there are, None if there is none."""
    bar = conflict(facts)
    if bar is not None:
        return bar
    rows = longest_choices(facts, reports)
    return ("report", rows.index(None)) if None in rows else None


def answer_of(facts, reports, others):
    """A filling that agrees, or a paper, with its name."""
    bar = bar_of_reports(facts, reports)
    if bar is not None:
        return ("none", bar)
    rows = ranges_beside(facts, reports)
    if len(rows) > others:
        # A range begins at the first corner that the one before it could not take, so these are apart.
        return ("none", ("apart", [a for a, _ in rows[:others + 1]]))
    found = longest_choices(facts, reports) + rows
    return ("filling", found + [(0, 0)] * (others - len(rows)))


def possible(facts, reports, *, others=0):
    """A filling that agrees, or a paper that shows that there is none."""
    check_known(facts, reports, others)
    return answer_of(facts, reports, others)


def is_allowed_range(facts, ends, value):
    return is_tuple_of(value, 2) and is_range(value[0], value[1], len(facts)) and value[1] <= ends[value[0]]


def is_choice(report, row):
    return all([span_of(end)[0] <= place <= span_of(end)[1] for end, place in zip(report, row)])


def is_agreeing(facts, reports, others, value):
    """Whether the value is a filling that agrees."""
    if not isinstance(value, list) or len(value) != len(reports) + others:
        return False
    ends = ends_of(facts)
    if not all([is_allowed_range(facts, ends, row) for row in value]):
        return False
    if not all([is_choice(report, row) for report, row in zip(reports, value)]):
        return False
    flags = flags_of(positions_marked(nexts_of(facts), value), len(facts))
    return all([flags[i] for i in facts.gone])


def agrees(facts, reports, value, *, others=0):
    """Whether the value is a filling that agrees."""
    check_known(facts, reports, others)
    return is_agreeing(facts, reports, others, value)


def shows_barred_report(facts, reports, index):
    if not is_integer_within(index, 0, len(reports) - 1):
        return False
    return longest_choices(facts, reports)[index] is None


def shows_apart(facts, reports, others, value):
    """Whether the value is positions that need more than others ranges beside the reports."""
    if not are_apart(facts, value) or len(value) != others + 1:
        return False
    seen = set(marked_by_choices(facts, reports))
    return not any([i in seen for i in value])


def shows_none(facts, reports, value, *, others=0):
    """Whether the value is a paper that shows that no filling agrees."""
    check_known(facts, reports, others)
    if shows_conflict(facts, value):
        return True
    if not is_tuple_of(value, 2) or not isinstance(value[0], str):
        return False
    name, told = value
    if name == "report":
        return shows_barred_report(facts, reports, told)
    return name == "apart" and shows_apart(facts, reports, others, told)


def fewest_others(facts, reports):
    """The fewest others with which a filling agrees."""
    check_reports(facts, reports)
    bar = bar_of_reports(facts, reports)
    if bar is not None:
        raise NoResult(bar)
    return len(ranges_beside(facts, reports))


def choices_sparing(report, choices, left, right):
    """How many of the choices mark none of these two points, if the report belongs to the gap between; otherwise 1."""
    first, last = report
    if isinstance(first, tuple):
        if left[1] <= last < right[1]:
            return len([a for a, _ in choices if a > left[0]])
    elif left[0] < first <= right[0]:
        return len([b for _, b in choices if b < right[1]])
    return 1


def ways_sparing(reports, choices, left, right):
    """The ways to choose from the reports of this gap without marking its points."""
    ways = 1
    for report, rows in zip(reports, choices):
        ways = ways * choices_sparing(report, rows, left, right)
    return ways


def ranges_sparing(ends, left, right):
    """The number of allowed ranges that begin in this gap and do not mark the point at its end."""
    return sum([min(end + 1, right[1]) - a for a, end in enumerate(ends) if left[0] < a <= right[0]])


def powers_behind(row, more):
    """From sums of the powers 0, 1, 2 .. of some numbers, the same sums with this much more in each number."""
    powers = [1]
    for _ in row[1:]:
        powers.append(powers[-1] * more)
    return [sum([comb(j, i) * row[i] * powers[j - i] for i in range(j + 1)]) for j in range(len(row))]


def count_fillings(facts, reports, others):
    """The number of fillings that agree, as an alternating sum over all sets of corners that stay unmarked."""
    if conflict(facts) is not None:
        return 0
    nexts = nexts_of(facts)
    ends = ends_of(facts)
    choices = [choices_allowed(ends, report) for report in reports]
    points = [(-1, -1)] + [(i, nexts[i]) for i in outermost(nexts, facts.gone)] + [(len(facts), len(facts))]
    # By the last corner of the sets: the sums of the powers of the number of ranges that begin up to it and mark
    # nothing of the set, each with its sign and with the ways to choose from the reports of its gaps.
    table = [[1] + [0] * others]
    for index, right in enumerate(points[1:]):
        total = [0] * (others + 1)
        for left, row in zip(points[:index + 1], table):
            ways = ways_sparing(reports, choices, left, right)
            if ways > 0:
                more = powers_behind(row, ranges_sparing(ends, left, right))
                total = [one - ways * other for one, other in zip(total, more)]
        table.append(total)
    # The point behind the log is no corner, so its sign is taken back.
    return -table[-1][others]


def fillings(facts, reports, *, others=0):
    """The number of fillings that agree."""
    check_known(facts, reports, others)
    return count_fillings(facts, reports, others)


def fraction(top, bottom):
    """The fraction without a common divisor."""
    divisor = gcd(top, bottom)
    return (top // divisor, bottom // divisor)


def chance(facts, reports, position, *, others=0):
    """The share of the agreeing fillings that mark the position."""
    check_known(facts, reports, others)
    if not is_position(position, len(facts)):
        raise InvalidPosition("a position must be an integer from 0 to n - 1")
    name, told = answer_of(facts, reports, others)
    if name == "none":
        raise NoResult(told)
    top = count_fillings(facts.plus(gone=[position]), reports, others)
    return fraction(top, count_fillings(facts, reports, others))


def count_with_end(facts, reports, index, value, others):
    """The number of agreeing fillings in which the unknown end of this report has this value."""
    first, last = reports[index]
    # Where the ends are the wrong way round, there are no choices, and so no fillings.
    narrow = (value, last) if isinstance(first, tuple) else (first, value)
    return count_fillings(facts, reports[:index] + [narrow] + reports[index + 1:], others)


def end_counts(facts, reports, index, *, others=0):
    """For each value of the unknown end of a report, the number of agreeing fillings with it."""
    check_known(facts, reports, others)
    if not is_integer_within(index, 0, len(reports) - 1):
        raise InvalidNumber("index must be an index of reports")
    open_ends = [end for end in reports[index] if isinstance(end, tuple)]
    values = [value for low, high in open_ends for value in range(low, high + 1)]
    return [(value, count_with_end(facts, reports, index, value, others)) for value in values]


def options_at(facts, reports, index):
    """Reports of which just one has the range at this place of a filling as a choice, ascending."""
    if index < len(reports):
        return [reports[index]]
    last = len(facts) - 1
    return [(a, (a, last)) for a in range(len(facts))]


def counts_behind(facts, known, options, reports, others):
    """For each of these reports the number of agreeing fillings that have a choice of it behind the known ranges."""
    done = len(known) + 1
    left = min(others, len(reports) + others - done)
    return [count_fillings(facts, [*known, option, *reports[done:]], left) for option in options]


def nth_filling(facts, reports, number, *, others=0):
    """The filling that agrees with this number."""
    check_known(facts, reports, others)
    if not is_integer_within(number, 0, count_fillings(facts, reports, others) - 1):
        raise InvalidNumber("there is no filling with this number")
    found = []
    place = number
    for index in range(len(reports) + others):
        options = options_at(facts, reports, index)
        report, place = share_of(options, counts_behind(facts, found, options, reports, others), place)
        choices = choices_of(report)
        row, place = share_of(choices, counts_behind(facts, found, choices, reports, others), place)
        found.append(row)
    return found


def filling_number(facts, reports, value, *, others=0):
    """The number of a filling that agrees."""
    check_known(facts, reports, others)
    if not is_agreeing(facts, reports, others, value):
        raise InvalidResult("value must be a filling that agrees")
    number = 0
    for index, row in enumerate(value):
        options = options_at(facts, reports, index)
        at = [is_choice(option, row) for option in options].index(True)
        choices = choices_of(options[at])
        ahead = options[:at] + choices[:choices.index(row)]
        number += sum(counts_behind(facts, value[:index], ahead, reports, others))
    return number
