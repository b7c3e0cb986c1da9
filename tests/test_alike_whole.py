"""Points 5 (f), 25, 26 and 27 against all results of all patterns of some records."""

import random
import unittest

from markthenpurge.alike import alike_count, are_alike, difference, fore, near, nth_alike, pattern, unlike_count
from markthenpurge.counting import counts
from markthenpurge.errors import InvalidNumber
from markthenpurge.facts import Facts
from markthenpurge.ranges import fewest, most
from tests.search import results_in_order
from tests.small import all_results, log_of, next_of, patterns


def results_of(log):
    """All results without facts and rules, as a tuple of tuples."""
    return tuple(tuple(row) for row in all_results(log, [], [], None, []))


def numbers_of(word):
    order = list(dict.fromkeys(word))
    return [order.index(letter) for letter in word]


def right_ends(word):
    return [i for i, letter in enumerate(word) if letter in word[:i]]


def classes_of(size):
    """All patterns of this many records, in lists of those with the same results, by their right ends."""
    found = {}
    for word in patterns(size):
        found.setdefault(results_of(log_of(word)), []).append(word)
    return [sorted(words, key=right_ends) for words in found.values()]


class Whole(unittest.TestCase):
    def test_all_patterns(self):
        for size in range(8):
            classes = classes_of(size)
            self.assertEqual(unlike_count(size), len(classes))
            for words in classes:
                self.assertEqual(len({tuple(right_ends(word)) for word in words}), len(words))
                rows = [numbers_of(word) for word in words]
                for word in words:
                    self.check_forms(log_of(word), rows)

    def check_forms(self, log, rows):
        self.assertIn(pattern(log), rows)
        self.assertEqual((near(log), fore(log), alike_count(log)), (rows[0], rows[-1], len(rows)))
        self.assertEqual([nth_alike(log, number) for number in range(len(rows))], rows)
        for number in (-1, len(rows)):
            with self.assertRaises(InvalidNumber):
                nth_alike(log, number)
        # In the fore form all keys stand first.
        keys = len({key for key, _ in log})
        self.assertEqual(rows[-1][:keys], list(range(keys)))

    def test_as_many_forms_as_powers(self):
        for size in range(8):
            found = {}
            for words in classes_of(size):
                keys = len(set(words[0]))
                self.assertTrue(all(len(set(word)) == keys for word in words))
                found[keys] = found.get(keys, 0) + 1
            self.assertEqual(found, {keys: keys ** (size - keys) for keys in range(size + 1) if size == 0 or keys > 0})

    def test_all_pairs(self):
        for size in range(6):
            logs = [log_of(word) for word in patterns(size)]
            for log in logs:
                for other in logs:
                    self.check_pair(log, other)

    def test_some_pairs_of_longer_logs(self):
        chance = random.Random(81)
        for size in (6, 7):
            words = patterns(size)
            for _ in range(700):
                log = log_of(chance.choice(words))
                other = log_of(chance.choice(words))
                self.check_pair(log, other)
                self.check_pair(log, [("abcdefgh"[number], None) for number in nth_alike(log, alike_count(log) // 2)])

    def check_pair(self, log, other):
        results = [results_of(log), results_of(other)]
        self.assertIs(are_alike(log, other), results[0] == results[1])
        # Point 25: the same newest positions, and all others in the same order by their nexts.
        self.assertIs(are_alike(log, other), self.have_the_same_order(log, other))
        found = difference(log, other)
        if results[0] == results[1]:
            self.assertIsNone(found)
            return
        index, positions = found
        self.assertEqual((type(found), type(index), type(positions)), (tuple, int, list))
        self.assertIn(tuple(positions), results[index])
        self.assertNotIn(tuple(positions), results[1 - index])

    def have_the_same_order(self, log, other):
        pairs = [(next_of(log, i), next_of(other, i)) for i in range(len(log))]
        if any((one is None) != (two is None) for one, two in pairs):
            return False
        arcs = [pair for pair in pairs if pair[0] is not None]
        return all((one[0] < two[0]) == (one[1] < two[1]) for one in arcs for two in arcs)


class TheSameNumbers(unittest.TestCase):
    def test_facts_without_rules(self):
        chance = random.Random(82)
        for size in (3, 4, 5, 6):
            for words in classes_of(size):
                gone = [i for i in range(size) if i in all_gone(words[0]) and chance.random() < 0.3]
                kept = [i for i in range(size) if i not in gone and chance.random() < 0.2]
                found = []
                for word in words:
                    log = log_of(word)
                    results = results_in_order((log, gone, kept, None, []))
                    facts = Facts(log, gone=gone, kept=kept)
                    few = (fewest(facts), most(facts)) if results else None
                    found.append((sorted(results), counts(facts), few))
                self.assertEqual(found, found[:1] * len(found))


def all_gone(word):
    return [i for i in range(len(word)) if word[i] in word[i + 1:]]


if __name__ == "__main__":
    unittest.main()
