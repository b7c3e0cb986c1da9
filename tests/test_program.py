"""Point 5 and the whole interface: every name, and what holds over all modules together, on drawn logs."""

import importlib
import inspect
import random
import unittest

from markthenpurge.alike import alike_count, are_alike, difference, fore, near, nth_alike, pattern, unlike_count
from markthenpurge.console import Console
from markthenpurge.counting import blocks, certain, counts, nth, number_of, sets_by_size
from markthenpurge.errors import NoPlan, NoResult
from markthenpurge.facts import Facts, allowed, conflict, greatest, is_result, least, reach, shows_conflict
from markthenpurge.live import LiveLog
from markthenpurge.logs import arcs, check_log, marked, newest, swept
from markthenpurge.prices import cheapest, fewest_of, freed_paper, freeing, idle, least_price, most_freed, potentials
from markthenpurge.prices import price_list, shows_fewest_of, shows_freed, shows_price, spread
from markthenpurge.ranges import apart, corners, fewest, levels, most, needing, ranges_in_few, shows_fewest, shows_most
from markthenpurge.reports import agrees, chance, end_counts, fewest_others, filling_number, fillings, nth_filling
from markthenpurge.reports import possible, shows_none
from markthenpurge.rounds import after, fewest_rounds, is_steady, longest_chain, reachable, shows_no_plan, shows_rounds
from markthenpurge.rounds import steady, windows
from markthenpurge.texts import read_log, read_ranges, read_reports, show_log, show_ranges, show_reports
from markthenpurge.values import keeps_values, least_keeping, shows_lost, value_at
from tests.cases import facts_of, mostly_possible_cases, some_amounts
from tests.fillings import some_reports
from tests.small import log_of

# What stands behind the star is passed by name alone.
FUNCTIONS = {
    "logs": "check_log(log) arcs(log) newest(log) marked(log,ranges) swept(log,gone,*,drop)",
    "facts": "conflict(facts) shows_conflict(facts,value) is_result(facts,value) least(facts) greatest(facts) "
             "allowed(facts,a,b) reach(facts,a)",
    "ranges": "corners(log,positions) fewest(facts) ranges_in_few(facts) apart(facts) "
              "shows_fewest(facts,number,value) most(facts) levels(facts) shows_most(facts,top,value) "
              "needing(facts,number)",
    "prices": "least_price(facts,prices,fee) cheapest(facts,prices,fee) price_list(facts,prices,fee) "
              "potentials(facts,prices,fee) shows_price(facts,prices,fee,price,value) most_freed(facts,sizes,many) "
              "freeing(facts,sizes,many) freed_paper(facts,sizes,many) shows_freed(facts,sizes,many,most,value) "
              "fewest_of(log,ranges) spread(log,ranges) shows_fewest_of(log,ranges,number,value) idle(log,ranges)",
    "counting": "counts(facts) blocks(facts,value) nth(facts,number) number_of(facts,value) certain(facts,many) "
                "sets_by_size(facts,most)",
    "reports": "possible(facts,reports,*,others) agrees(facts,reports,value,*,others) "
               "shows_none(facts,reports,value,*,others) fewest_others(facts,reports) "
               "fillings(facts,reports,*,others) chance(facts,reports,position,*,others) "
               "end_counts(facts,reports,index,*,others) nth_filling(facts,reports,number,*,others) "
               "filling_number(facts,reports,value,*,others)",
    "alike": "pattern(log) are_alike(log,other) difference(log,other) near(log) fore(log) alike_count(log) "
             "nth_alike(log,number) unlike_count(records)",
    "rounds": "after(log,rounds) is_steady(log,rounds) steady(log,gone,*,bounds) "
              "shows_no_plan(log,gone,value,*,bounds) fewest_rounds(log,gone,*,bounds) "
              "longest_chain(log,gone,*,bounds) shows_rounds(log,gone,number,value,*,bounds) "
              "windows(log,gone,many,*,bounds) reachable(log,gone)",
    "values": "value_at(log,key,place) keeps_values(log,gone,reads) least_keeping(facts,reads) "
              "shows_lost(facts,reads,value)",
    "texts": "show_log(log) show_ranges(ranges) show_reports(reports) read_log(text) read_ranges(text) "
             "read_reports(text)",
}
METHODS = {
    ("facts", "Facts"): "__init__(self,log,*,gone,kept,longest,walls) plus(self,*,gone,kept) exact(self,gone) "
                        "with_reads(self,reads) __len__(self) __eq__(self,other)",
    ("live", "LiveLog"): "__init__(self,records) append(self,key,value) purge(self,a,b) sweep(self,*,drop) "
                         "read(self,key,offset) current(self) back(self,*,count) __len__(self) __iter__(self)",
    ("console", "Console"): "__init__(self) execute(self,command)",
}
PROPERTIES = {
    ("facts", "Facts"): ["log", "gone", "kept", "longest", "walls"],
    ("live", "LiveLog"): ["records", "standing", "marked", "deeds"],
}
DEFAULTS = {
    "drop": False, "gone": (), "kept": (), "longest": None, "walls": (), "others": 0, "bounds": (), "records": (),
    "count": 1,
}


def signature_text(name, function):
    """A name with its parameters, a star ahead of those that are passed by name alone."""
    words = []
    for parameter in inspect.signature(function).parameters.values():
        if parameter.kind is inspect.Parameter.KEYWORD_ONLY and "*" not in words:
            words.append("*")
        words.append(parameter.name)
    return name + "(" + ",".join(words) + ")"


class Interface(unittest.TestCase):
    def test_functions(self):
        for module, texts in FUNCTIONS.items():
            home = importlib.import_module("markthenpurge." + module)
            for text in texts.split():
                name = text.split("(")[0]
                function = getattr(home, name)
                self.assertEqual(signature_text(name, function), text)
                self.assertEqual(function.__module__, home.__name__)

    def test_methods_stand_in_the_class_itself(self):
        for (module, name), texts in METHODS.items():
            home = getattr(importlib.import_module("markthenpurge." + module), name)
            self.assertEqual(home.__module__, "markthenpurge." + module)
            for text in texts.split():
                word = text.split("(")[0]
                self.assertIn(word, vars(home))
                self.assertEqual(signature_text(word, vars(home)[word]), text)
            for word in PROPERTIES.get((module, name), []):
                self.assertIsInstance(vars(home)[word], property)

    def test_default_values(self):
        homes = [getattr(importlib.import_module("markthenpurge." + module), text.split("(")[0])
                 for module, texts in FUNCTIONS.items() for text in texts.split()]
        homes += [vars(getattr(importlib.import_module("markthenpurge." + module), name))[text.split("(")[0]]
                  for (module, name), texts in METHODS.items() for text in texts.split()]
        for function in homes:
            for parameter in inspect.signature(function).parameters.values():
                if parameter.kind is inspect.Parameter.KEYWORD_ONLY or parameter.name == "records" and "." in \
                        function.__qualname__:
                    self.assertEqual(parameter.default, DEFAULTS[parameter.name])
                else:
                    self.assertIs(parameter.default, inspect.Parameter.empty)


class ByName(unittest.TestCase):
    """Every function, with all its arguments by name."""

    def test_logs_and_facts(self):
        log = log_of("abab")
        facts = Facts(log=log, gone=[0], kept=[], longest=None, walls=[])
        self.assertIsNone(check_log(log=log))
        self.assertEqual((arcs(log=log), newest(log=log)), ([(0, 2), (1, 3)], [2, 3]))
        self.assertEqual(marked(log=log, ranges=[(0, 2)]), [0])
        self.assertEqual(swept(log=log, gone=[0], drop=False), log[1:])
        self.assertEqual((conflict(facts=facts), least(facts=facts), greatest(facts=facts)), (None, [0], [0, 1]))
        self.assertIs(shows_conflict(facts=facts, value=None), False)
        self.assertIs(is_result(facts=facts, value=[0]), True)
        self.assertEqual((allowed(facts=facts, a=0, b=3), reach(facts=facts, a=0)), (True, 3))
        self.assertTrue(facts.plus(gone=[1], kept=[]) == Facts(log, gone=[0, 1]))
        self.assertTrue(facts.exact(gone=[0]) == Facts(log, gone=[0], kept=[1, 2, 3]))
        self.assertTrue(facts.with_reads(reads=[("a", 1, None)]) == facts)

    def test_ranges_prices_and_counting(self):
        log = log_of("abab")
        facts = Facts(log, gone=[0])
        self.assertEqual((corners(log=log, positions=[0, 1]), fewest(facts=facts), most(facts=facts)), ([0, 1], 1, 1))
        self.assertEqual((ranges_in_few(facts=facts), apart(facts=facts)), ([(0, 2)], [0]))
        self.assertEqual(needing(facts=facts, number=1), [0])
        self.assertIs(shows_fewest(facts=facts, number=1, value=[0]), True)
        self.assertIs(shows_most(facts=facts, top=1, value=levels(facts=facts)), True)
        ones = [1, 1, 1, 1]
        self.assertEqual(least_price(facts=facts, prices=ones, fee=2), 5)
        self.assertEqual(cheapest(facts=facts, prices=ones, fee=2), [(0, 2)])
        self.assertEqual(price_list(facts=facts, prices=ones, fee=2), [5])
        paper = potentials(facts=facts, prices=ones, fee=2)
        self.assertIs(shows_price(facts=facts, prices=ones, fee=2, price=5, value=paper), True)
        self.assertEqual(most_freed(facts=facts, sizes=ones, many=1), 2)
        self.assertEqual(freeing(facts=facts, sizes=ones, many=1), [(0, 3)])
        paper = freed_paper(facts=facts, sizes=ones, many=1)
        self.assertIs(shows_freed(facts=facts, sizes=ones, many=1, most=2, value=paper), True)
        self.assertEqual((fewest_of(log=log, ranges=[(0, 2)]), idle(log=log, ranges=[(0, 2)])), ([0], []))
        self.assertEqual(spread(log=log, ranges=[(0, 2)]), [0])
        self.assertIs(shows_fewest_of(log=log, ranges=[(0, 2)], number=1, value=[0]), True)
        self.assertEqual((counts(facts=facts), blocks(facts=facts, value=[0])), ([0, 2], [(0, 2)]))
        self.assertEqual((nth(facts=facts, number=0), number_of(facts=facts, value=[0])), ([0], 0))
        self.assertEqual((certain(facts=facts, many=1), sets_by_size(facts=facts, most=1)), (([0], [2, 3]), [0, 2]))

    def test_reports_alike_and_rounds(self):
        log = log_of("abab")
        facts = Facts(log, gone=[0])
        rows = [(0, (0, 2))]
        self.assertEqual(possible(facts=facts, reports=rows, others=0), ("filling", [(0, 2)]))
        self.assertIs(agrees(facts=facts, reports=rows, value=[(0, 2)], others=0), True)
        self.assertIs(shows_none(facts=facts, reports=[], value=("apart", [0]), others=0), True)
        self.assertEqual((fewest_others(facts=facts, reports=rows), fillings(facts, reports=rows, others=0)), (0, 1))
        self.assertEqual(chance(facts=facts, reports=rows, position=0, others=0), (1, 1))
        self.assertEqual(end_counts(facts=facts, reports=rows, index=0, others=0), [(0, 0), (1, 0), (2, 1)])
        self.assertEqual(nth_filling(facts=facts, reports=rows, number=0, others=0), [(0, 2)])
        self.assertEqual(filling_number(facts=facts, reports=rows, value=[(0, 2)], others=0), 0)
        self.assertEqual((pattern(log=log), near(log=log), fore(log=log)), ([0, 1, 0, 1], [0, 0, 0, 1], [0, 1, 0, 1]))
        self.assertIs(are_alike(log=log, other=log_of("aaab")), True)
        self.assertIsNone(difference(log=log, other=log_of("aaab")))
        self.assertEqual((alike_count(log=log), nth_alike(log=log, number=2)), (3, [0, 1, 0, 1]))
        self.assertEqual(unlike_count(records=4), 9)
        self.assertEqual(after(log=log, rounds=[[(0, 3)]]), [[0, 1]])
        self.assertIs(is_steady(log=log, rounds=[[(0, 3)]]), True)
        self.assertEqual(steady(log=log, gone=[0], bounds=()), ("plan", [[(0, 2)]]))
        self.assertIs(shows_no_plan(log=log, gone=[2], value=("newest", 2), bounds=()), True)
        self.assertEqual(fewest_rounds(log=log, gone=[0], bounds=()), 1)
        self.assertEqual(longest_chain(log=log, gone=[0], bounds=()), [0])
        self.assertIs(shows_rounds(log=log, gone=[0], number=1, value=[0], bounds=()), True)
        self.assertEqual(windows(log=log, gone=[0], many=2, bounds=()), [(0, 1, 2)])
        self.assertEqual(reachable(log=log, gone=[0]), [0])

    def test_values_live_texts_and_console(self):
        log = log_of("abab")
        self.assertEqual(value_at(log=log, key="a", place=1), 0)
        self.assertIs(keeps_values(log=log, gone=[0], reads=[]), True)
        self.assertEqual(least_keeping(facts=Facts(log, gone=[0]), reads=[]), [0])
        self.assertIs(shows_lost(facts=Facts(log), reads=[], value=[]), False)
        live = LiveLog(records=log)
        self.assertEqual((live.append(key="a", value=4), live.purge(a=0, b=4), live.sweep(drop=False)), (4, 3, 3))
        self.assertEqual((live.read(key="a", offset=4), live.current()), (4, {"a": 4, "b": 3}))
        self.assertIsNone(live.back(count=3))
        self.assertEqual(read_log(text=show_log(log=log)), log)
        self.assertEqual(read_ranges(text=show_ranges(ranges=[(0, 1)])), [(0, 1)])
        self.assertEqual(read_reports(text=show_reports(reports=[(0, (1, 2))])), [(0, (1, 2))])
        self.assertEqual(Console().execute(command="counts"), "1")


def drawn(seed, many, sizes):
    """Drawn facts, with values that repeat in their logs, and the generator for more."""
    draw = random.Random(seed)
    for log, gone, kept, longest, walls in mostly_possible_cases(seed, many, sizes):
        log = [(key, draw.choice([None, 0, 1, -2])) for key, _ in log]
        yield draw, (log, gone, kept, longest, walls)


class Together(unittest.TestCase):
    def test_a_result_or_a_conflict(self):
        for draw, case in drawn(161, 300, (3, 6, 9, 12)):
            facts = facts_of(case)
            bar = conflict(facts)
            self.assertEqual(bar is None, counts(facts) != [])
            if bar is None:
                self.assertIs(is_result(facts, least(facts)) and is_result(facts, greatest(facts)), True)
                continue
            self.assertIs(shows_conflict(facts, bar), True)
            calls = [least, greatest, fewest, ranges_in_few, apart, most, levels, lambda facts: needing(facts, None),
                     lambda facts: fewest_others(facts, []), lambda facts: certain(facts, 1)]
            for call in calls:
                with self.assertRaises(NoResult) as caught:
                    call(facts)
                self.assertIs(shows_conflict(facts, caught.exception.paper), True)
            self.assertEqual((fillings(facts, []), sets_by_size(facts, 2)), (0, [0, 0, 0]))
            self.assertEqual(possible(facts, []), ("none", bar))
            with self.assertRaises(NoResult) as caught:
                least_keeping(facts, [])
            self.assertIs(shows_lost(facts, [], caught.exception.paper), True)

    def test_results_with_their_blocks_numbers_and_counts(self):
        for draw, case in drawn(162, 200, (4, 8, 12, 16)):
            facts = facts_of(case)
            numbers = counts(facts)
            if conflict(facts) is not None:
                continue
            few = min(k for k, number in enumerate(numbers) if number > 0)
            self.assertEqual((fewest(facts), most(facts)), (few, len(numbers) - 1))
            for number in {0, sum(numbers) - 1, draw.randrange(sum(numbers))}:
                value = nth(facts, number)
                self.assertIs(is_result(facts, value), True)
                self.assertEqual(number_of(facts, value), number)
                self.check_result(facts, value, blocks(facts, value))

    def check_result(self, facts, value, rows):
        log = facts.log
        self.assertTrue(set(least(facts)) <= set(value) <= set(greatest(facts)))
        self.assertEqual(marked(log, rows), value)
        self.assertEqual([fewest(facts.exact(value)), most(facts.exact(value))], [len(rows)] * 2)
        self.assertEqual(counts(facts.exact(value)), [0] * len(rows) + [1])
        self.assertEqual(len(fewest_of(log, rows)), len(spread(log, rows)))
        self.assertIs(agrees(facts, rows, rows), True)
        self.assertEqual((fillings(facts, rows), fewest_others(facts, rows)), (1, 0))
        # One round removes a result, and each read changes at most once.
        self.assertEqual(after(log, [rows]), [value])
        self.assertIs(is_steady(log, [rows]), True)
        self.assertEqual(fewest_rounds(log, value), min(1, len(value)))
        live = LiveLog(log)
        self.assertEqual(sum(live.purge(a, b) for a, b in rows), len(value))
        self.assertEqual((live.marked, live.sweep()), (value, len(value)))
        self.assertEqual(live.records, swept(log, value))
        self.assertEqual(read_log(show_log(live.records)), live.records)
        self.assertEqual(read_ranges(show_ranges(rows)), rows)

    def test_papers_beside_the_answers_that_they_show(self):
        for draw, case in drawn(163, 200, (4, 7, 10, 14)):
            facts = facts_of(case)
            if conflict(facts) is not None:
                continue
            few = fewest(facts)
            self.assertIs(shows_fewest(facts, few, apart(facts)), True)
            self.assertIs(shows_most(facts, most(facts), levels(facts)), True)
            amounts, fee = some_amounts(draw, len(facts)), draw.randint(0, 5)
            price = least_price(facts, amounts, fee)
            self.assertIs(shows_price(facts, amounts, fee, price, potentials(facts, amounts, fee)), True)
            self.assertEqual(min(price_list(facts, amounts, fee)), price)
            rows = cheapest(facts, amounts, fee)
            self.assertEqual(sum(fee + sum(amounts[a:b + 1]) for a, b in rows), price)
            for many in (few, few + 1, few + 3):
                freed = most_freed(facts, amounts, many)
                self.assertIs(shows_freed(facts, amounts, many, freed, freed_paper(facts, amounts, many)), True)
                self.assertEqual(sum(amounts[i] for i in marked(facts.log, freeing(facts, amounts, many))), freed)
            self.assertTrue(set(facts.gone) <= set(marked(facts.log, rows)))
            self.assertEqual(len(fewest_of(facts.log, rows)), len(spread(facts.log, rows)))
            self.assertTrue(all(0 <= k < len(rows) for k in idle(facts.log, rows)))

    def test_reports_beside_counts(self):
        for draw, case in drawn(164, 200, (4, 7, 10)):
            facts = facts_of(case)
            rows = some_reports(draw, facts.log, draw.randint(0, 4))
            others = draw.randint(0, 3)
            number = fillings(facts, rows, others=others)
            name, told = possible(facts, rows, others=others)
            self.assertEqual(name == "filling", number > 0)
            self.assertEqual(read_reports(show_reports(rows)), rows)
            if name == "none":
                self.assertIs(shows_none(facts, rows, told, others=others), True)
                continue
            self.assertIs(agrees(facts, rows, told, others=others), True)
            place = draw.randrange(number)
            value = nth_filling(facts, rows, place, others=others)
            self.assertEqual(filling_number(facts, rows, value, others=others), place)
            self.assertIs(is_result(facts, marked(facts.log, value)), True)
            for i in newest(facts.log):
                self.assertEqual(chance(facts, rows, i, others=others), (0, 1))
            for i in least(facts):
                self.assertEqual(chance(facts, rows, i, others=others), (1, 1))

    def test_alike_logs_have_the_same_numbers(self):
        for draw, (log, gone, kept, _, _) in drawn(165, 120, (4, 7, 10)):
            number = draw.randrange(alike_count(log))
            other = [("abcdefghijkl"[key], None) for key in nth_alike(log, number)]
            self.assertIs(are_alike(log, other), True)
            one, two = Facts(log, gone=gone, kept=kept), Facts(other, gone=gone, kept=kept)
            self.assertEqual((counts(one), conflict(one) is None), (counts(two), conflict(two) is None))
            if conflict(one) is None:
                place = draw.randrange(sum(counts(one)))
                self.assertEqual(nth(one, place), nth(two, place))
                self.assertEqual((fewest(one), most(one)), (fewest(two), most(two)))
                self.assertEqual(certain(one, fewest(one)), certain(two, fewest(one)))

    def test_plans_or_papers(self):
        for draw, (log, gone, _, _, _) in drawn(166, 200, (4, 7, 10)):
            bounds = [(i, draw.randint(1, 2), None) for i in gone if draw.random() < 0.3]
            name, told = steady(log, gone, bounds=bounds)
            if name == "none":
                self.assertIs(shows_no_plan(log, gone, told, bounds=bounds), True)
                with self.assertRaises(NoPlan):
                    fewest_rounds(log, gone, bounds=bounds)
                continue
            self.assertIs(is_steady(log, told), True)
            chain = longest_chain(log, gone, bounds=bounds)
            self.assertIs(shows_rounds(log, gone, len(told), chain, bounds=bounds), True)
            removed = after(log, told)
            found = windows(log, gone, len(told), bounds=bounds)
            self.assertTrue(all(i in removed[first - 1] for i, first, _ in found))
            # What steady rounds reach, rounds reach.
            self.assertEqual(sorted(reachable(log, gone)), sorted(set(gone)))
            live = LiveLog(log)
            for ranges, row in zip(told, removed):
                for a, b in ranges:
                    live.purge(a, b)
                self.assertEqual((live.marked, live.sweep()), (row, len(row)))
            self.assertEqual(live.records, swept(log, gone))

    def test_values_that_are_kept(self):
        for draw, case in drawn(167, 200, (4, 7, 10)):
            facts = facts_of(case)
            log = facts.log
            reads = [(draw.choice(log)[0], draw.randrange(len(log))) for _ in range(draw.randint(0, 4))]
            try:
                found = least_keeping(facts, reads)
            except NoResult as error:
                self.assertIs(shows_lost(facts, reads, error.paper), True)
                continue
            self.assertIs(is_result(facts, found) and keeps_values(log, found, reads), True)
            self.assertTrue(set(least(facts)) <= set(found))
            live = LiveLog(log)
            for a, b in blocks(facts, found):
                live.purge(a, b)
            live.sweep()
            self.assertTrue(all(live.read(*read) == value_at(log, *read) for read in reads))

    def test_live_logs_answer_as_their_standing_records(self):
        for draw, (log, _, _, _, _) in drawn(168, 200, (4, 7, 10)):
            live = LiveLog(log)
            live.purge(0, draw.randrange(len(log)))
            live.sweep(drop=True)
            standing = live.records
            check_log(standing)
            tail = {key: value for key, value in standing}
            self.assertEqual(live.current(), {key: tail[key] for key in sorted(tail) if tail[key] is not None})
            for key in tail:
                self.assertEqual(live.read(key, len(log) - 1), value_at(standing, key, len(standing) - 1))
            last = live.append("a", 3)
            self.assertEqual(live.purge(0, last), len(arcs(live.records)))
            live.sweep()
            self.assertEqual(newest(live.records), list(range(len(live))))

    def test_the_console_beside_the_functions(self):
        for draw, case in drawn(169, 60, (4, 8)):
            facts = facts_of(case)
            console = Console()
            console.execute("log " + show_log(facts.log))
            for name, numbers in [("gone", facts.gone), ("kept", facts.kept)]:
                if numbers:
                    console.execute(name + " " + " ".join(str(i) for i in numbers))
            for wall in facts.walls:
                console.execute("wall " + str(wall))
            if facts.longest is not None:
                console.execute("longest " + str(facts.longest))
            self.assertEqual(console.execute("counts"), " ".join(str(n) for n in counts(facts)) or "-")
            self.assertEqual(console.execute("possible"), "yes" if fillings(facts, []) else "no")
            if conflict(facts) is None:
                self.assertEqual(console.execute("ranges"), show_ranges(ranges_in_few(facts)))
                self.assertEqual(console.execute("fewest"), str(fewest(facts)))


if __name__ == "__main__":
    unittest.main()
