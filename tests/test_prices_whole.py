"""Points 5 (c), 14, 15 and 16 against answers that are found by trying everything."""

import random
import unittest

from markthenpurge.errors import NoResult
from markthenpurge.facts import conflict
from markthenpurge.prices import cheapest, fewest_of, freed_paper, freeing, idle, least_price, most_freed, potentials
from markthenpurge.prices import price_list, shows_fewest_of, shows_freed, shows_price, spread
from markthenpurge.ranges import fewest
from tests.cases import cases_of_small_logs, facts_of, mostly_possible_cases, some_amounts, some_cases
from tests.papers import bent_parts, shows_fewest_of_by_words, shows_freed_by_words, shows_price_by_words
from tests.search import allowed_by, choices_that_mark_all, corners_of, freed_by_number, prices_by_number
from tests.small import all_ranges, log_of, marks_of_all, subsets


def least_so_far(row):
    """The least of the entries up to each one, None left out."""
    found = []
    for k in range(len(row)):
        found.append(min((part for part in row[:k + 1] if part is not None), default=None))
    return found


class Prices(unittest.TestCase):
    def check(self, case, amounts, fee):
        facts = facts_of(case)
        if conflict(facts) is not None:
            for function in (least_price, cheapest, price_list, potentials):
                with self.assertRaises(NoResult) as caught:
                    function(facts, amounts, fee)
                self.assertEqual(caught.exception.paper, conflict(facts))
            return
        corners = corners_of(case[0], case[1])
        right = least_so_far(prices_by_number(case, amounts, fee, len(corners)))
        found = price_list(facts, amounts, fee)
        self.assertEqual(found, [price for price in right if price is not None])
        self.assertEqual(len(found), len(corners) - fewest(facts) + 1)
        self.assertEqual(least_price(facts, amounts, fee), right[-1])
        self.check_falls(found)
        self.check_cheapest(case, facts, amounts, fee, right[-1])
        value = potentials(facts, amounts, fee)
        self.assertTrue(shows_price_by_words(case, amounts, fee, right[-1], value))
        self.assertIs(shows_price(facts, amounts, fee, right[-1], value), True)

    def check_falls(self, found):
        falls = [before - after for before, after in zip(found, found[1:])]
        self.assertEqual(falls, sorted(falls, reverse=True))
        self.assertTrue(all(fall >= 0 for fall in falls))

    def check_cheapest(self, case, facts, amounts, fee, price):
        rows = cheapest(facts, amounts, fee)
        self.assertEqual(rows, sorted(set(rows)))
        self.assertTrue(set(rows) <= set(allowed_by(case)))
        self.assertTrue(set(facts.gone) <= set(marks_of_all(facts.log, rows)))
        self.assertEqual(sum(fee + sum(amounts[a:b + 1]) for a, b in rows), price)

    def test_all_facts_of_small_logs(self):
        for case in cases_of_small_logs():
            self.check(case, [3, 1, 2][:len(case[0])], 1)

    def test_some_facts_of_longer_logs(self):
        chance = random.Random(11)
        for case in list(some_cases(200)) + list(mostly_possible_cases(12, 500, (4, 5, 6, 7, 8))):
            self.check(case, some_amounts(chance, len(case[0])), chance.choice([0, 1, 5, 10 ** 30]))

    def test_bent_lists(self):
        chance = random.Random(13)
        for case in mostly_possible_cases(14, 150, (4, 5, 6, 7)):
            facts = facts_of(case)
            if conflict(facts) is not None:
                continue
            amounts = some_amounts(chance, len(facts))
            price = least_price(facts, amounts, 2)
            for value in bent_parts(potentials(facts, amounts, 2)):
                for other in [price, price + 1] + list(value[-1:]):
                    right = shows_price_by_words(case, amounts, 2, other, value)
                    self.assertIs(shows_price(facts, amounts, 2, other, value), right, (case, value))


class Freed(unittest.TestCase):
    def check(self, case, sizes):
        facts = facts_of(case)
        if conflict(facts) is not None:
            for function in (most_freed, freeing, freed_paper):
                with self.assertRaises(NoResult) as caught:
                    function(facts, sizes, len(facts))
                self.assertEqual(caught.exception.paper, conflict(facts))
            return
        rows = freed_by_number(case, sizes, len(facts))
        for many in range(len(facts) + 1):
            if many < fewest(facts):
                self.assertIsNone(rows[many])
                continue
            right = max(freed for freed in rows[:many + 1] if freed is not None)
            self.assertEqual(most_freed(facts, sizes, many), right)
            self.check_freeing(case, facts, sizes, many, right)
            self.check_paper(case, facts, sizes, many, right)

    def check_freeing(self, case, facts, sizes, many, most):
        rows = freeing(facts, sizes, many)
        self.assertLessEqual(len(rows), many)
        self.assertEqual(rows, sorted(set(rows)))
        self.assertTrue(set(rows) <= set(allowed_by(case)))
        together = marks_of_all(facts.log, rows)
        self.assertTrue(set(facts.gone) <= set(together))
        self.assertEqual(sum(sizes[i] for i in together), most)

    def check_paper(self, case, facts, sizes, many, most):
        value = freed_paper(facts, sizes, many)
        self.assertTrue(shows_freed_by_words(case, sizes, many, most, value))
        self.assertIs(shows_freed(facts, sizes, many, most, value), True)
        self.assertIs(shows_freed(facts, sizes, many, most - 1, value), False)

    def test_all_facts_of_small_logs(self):
        for case in cases_of_small_logs():
            self.check(case, [3, 1, 2][:len(case[0])])

    def test_some_facts_of_longer_logs(self):
        chance = random.Random(21)
        for case in list(some_cases(150)) + list(mostly_possible_cases(22, 350, (4, 5, 6, 7, 8))):
            self.check(case, some_amounts(chance, len(case[0])))

    def test_bent_papers(self):
        chance = random.Random(23)
        for case in mostly_possible_cases(24, 60, (4, 5, 6, 7)):
            facts = facts_of(case)
            if conflict(facts) is not None:
                continue
            sizes = some_amounts(chance, len(facts))
            for many in (fewest(facts), fewest(facts) + 1):
                most = most_freed(facts, sizes, many)
                for value in bent_parts(freed_paper(facts, sizes, many)):
                    for number in (many, many - 1):
                        right = shows_freed_by_words(case, sizes, number, most, value)
                        self.assertIs(shows_freed(facts, sizes, number, most, value), right, (case, value))


class RangesOfAList(unittest.TestCase):
    def cases(self):
        chance = random.Random(31)
        for _ in range(400):
            log = log_of("".join(chance.choice("abc") for _ in range(chance.randint(1, 8))))
            yield log, [chance.choice(all_ranges(log)) for _ in range(chance.randint(0, 7))]

    def test_all_choices(self):
        for log, rows in self.cases():
            right = choices_that_mark_all(log, rows)
            value = fewest_of(log, rows)
            self.assertIn(value, right)
            self.assertEqual(len(value), min(len(choice) for choice in right))
            whole = list(range(len(rows)))
            self.assertEqual(idle(log, rows), [k for k in whole if [i for i in whole if i != k] in right])
            shown = spread(log, rows)
            self.assertEqual(len(shown), len(value))
            self.assertTrue(shows_fewest_of_by_words(log, rows, len(value), shown))
            self.assertIs(shows_fewest_of(log, rows, len(value), shown), True)

    def test_all_position_lists(self):
        for log, rows in list(self.cases())[:100]:
            for value in subsets(range(len(log))):
                right = shows_fewest_of_by_words(log, rows, len(value), value)
                self.assertIs(shows_fewest_of(log, rows, len(value), value), right)
                if right:
                    self.assertLessEqual(len(value), len(fewest_of(log, rows)))

    def test_bent_positions(self):
        for log, rows in list(self.cases())[100:150]:
            number = len(fewest_of(log, rows))
            for value in bent_parts(spread(log, rows)):
                for other in (number - 1, number, number + 1):
                    right = shows_fewest_of_by_words(log, rows, other, value)
                    self.assertIs(shows_fewest_of(log, rows, other, value), right)


if __name__ == "__main__":
    unittest.main()
