"""Points 5 (g), 28, 29, 30, 31 and 32 against answers that are found by trying everything."""

import random
import unittest
from itertools import permutations

from markthenpurge.errors import InvalidNumber, NoPlan
from markthenpurge.rounds import after, fewest_rounds, is_steady, longest_chain, reachable, shows_no_plan, shows_rounds
from markthenpurge.rounds import steady, windows
from tests.cases import some_word
from tests.papers import bent_parts
from tests.plans import all_plans, enough_rounds, follow, is_order_by_words, is_steady_by_words, keeps_bounds
from tests.plans import marks_standing, reached_by_rounds, shows_no_plan_by_words, shows_rounds_by_words
from tests.small import all_ranges, log_of, logs_up_to, next_of, subsets


def some_range(chance, size):
    return tuple(sorted([chance.randrange(size), chance.randrange(size)]))


def some_rounds(chance, size, many):
    """Some rounds of a log with this many records."""
    found = []
    for _ in range(chance.randint(0, many)):
        found.append([some_range(chance, size) for _ in range(chance.choice([0, 1, 1, 2, 3]))])
    return found


def some_bounds(chance, gone, high):
    """Some bounds of these positions, mostly with a plan."""
    found = []
    for i in gone:
        while chance.random() < 0.35:
            low = chance.choice([1, 1, chance.randint(1, high)])
            found.append((i, low, chance.choice([None, None, chance.randint(low, high + 1)])))
    chance.shuffle(found)
    return found


def some_gone(chance, log, most):
    others = [i for i in range(len(log)) if next_of(log, i) is not None]
    gone = sorted(chance.sample(others, min(len(others), chance.randint(0, most))))
    return gone


class After(unittest.TestCase):
    def test_small_logs(self):
        chance = random.Random(91)
        for log in logs_up_to(4):
            for _ in range(20):
                self.check(log, some_rounds(chance, len(log), 4) if log else [[], []])

    def test_longer_logs(self):
        chance = random.Random(92)
        for _ in range(700):
            log = log_of(some_word(chance, chance.randint(3, 8)))
            self.check(log, some_rounds(chance, len(log), 6))

    def check(self, log, rounds):
        removed = follow(log, rounds)
        self.assertEqual(after(log, rounds), removed)
        self.assertIs(is_steady(log, rounds), is_steady_by_words(log, removed))

    def test_rounds_of_one_range_each(self):
        chance = random.Random(93)
        for _ in range(200):
            log = log_of(some_word(chance, chance.randint(3, 7)))
            ranges = [some_range(chance, len(log)) for _ in range(3)]
            whole = after(log, [ranges])[0]
            for order in permutations(ranges):
                alone = sorted(i for row in after(log, [[one] for one in order]) for i in row)
                if all(one[1] <= other[1] for one, other in zip(order, order[1:])):
                    self.assertEqual(alone, whole)
                self.assertLessEqual(set(alone), set(whole))


class Plans(unittest.TestCase):
    def check(self, log, gone, bounds):
        name, told = steady(log, gone, bounds=bounds)
        enough = enough_rounds(gone, bounds)
        plans = all_plans(log, gone, bounds, enough)
        self.assertEqual(name, "plan" if plans else "none")
        if not plans:
            self.check_paper(log, gone, bounds, told)
            return
        few = min(max(chosen.values(), default=0) for chosen in plans)
        self.assertEqual((fewest_rounds(log, gone, bounds=bounds), len(told)), (few, few))
        first = {i: min(chosen[i] for chosen in plans) for i in set(gone)}
        removed = follow(log, told)
        self.assertEqual(removed, [sorted(i for i in set(gone) if first[i] == at) for at in range(1, few + 1)])
        self.assertTrue(is_steady_by_words(log, removed))
        self.assertTrue(keeps_bounds(first, bounds))
        chain = longest_chain(log, gone, bounds=bounds)
        self.assertTrue(shows_rounds_by_words(log, gone, bounds, few, chain))
        self.assertIs(shows_rounds(log, gone, few, chain, bounds=bounds), True)
        self.check_windows(log, gone, bounds, few, enough)

    def check_windows(self, log, gone, bounds, few, enough):
        for many in range(few, min(few + 2, enough + 1) + 1):
            plans = all_plans(log, gone, bounds, many)
            rows = [(i, {chosen[i] for chosen in plans}) for i in sorted(set(gone))]
            found = windows(log, gone, many, bounds=bounds)
            self.assertEqual(found, [(i, min(numbers), max(numbers)) for i, numbers in rows])
            self.assertTrue(all(numbers == set(range(min(numbers), max(numbers) + 1)) for _, numbers in rows))
        with self.assertRaises(InvalidNumber):
            windows(log, gone, few - 1, bounds=bounds)

    def check_paper(self, log, gone, bounds, paper):
        self.assertTrue(shows_no_plan_by_words(log, gone, bounds, paper), paper)
        self.assertIs(shows_no_plan(log, gone, paper, bounds=bounds), True)
        if paper[0] in ("circle", "late"):
            self.assertLessEqual(len(paper[1]), 201)
        for call in (fewest_rounds, longest_chain, lambda *told, bounds: windows(*told, None, bounds=bounds)):
            with self.assertRaises(NoPlan) as caught:
                call(log, gone, bounds=bounds)
            self.assertTrue(shows_no_plan_by_words(log, gone, bounds, caught.exception.paper))

    def test_all_positions_of_small_logs(self):
        for log in logs_up_to(5):
            for gone in subsets(range(len(log))):
                if len(log) < 5 or len(gone) < 4:
                    self.check(log, gone, [])

    def test_bounds_on_small_logs(self):
        chance = random.Random(94)
        for log in logs_up_to(5):
            for gone in subsets(i for i in range(len(log)) if next_of(log, i) is not None):
                self.check(log, gone, some_bounds(chance, gone, 3))

    def test_longer_logs(self):
        chance = random.Random(95)
        for _ in range(500):
            log = log_of(some_word(chance, chance.randint(5, 8)))
            gone = some_gone(chance, log, 4)
            bounds = some_bounds(chance, gone, 2) if chance.random() < 0.6 else []
            gone = gone + [i for i in gone if chance.random() < 0.3]
            chance.shuffle(gone)
            self.check(log, gone, bounds)

    def test_longer_logs_with_a_plan(self):
        # Removing what steady rounds remove can be planned.
        chance = random.Random(96)
        for _ in range(400):
            log = log_of(some_word(chance, chance.randint(6, 9)))
            rounds = some_rounds(chance, len(log), 5)
            removed = follow(log, rounds)
            if is_steady_by_words(log, removed):
                gone = [i for row in removed for i in row]
                name, _ = steady(log, gone, bounds=[(i, k + 1, k + 1) for k, row in enumerate(removed) for i in row])
                self.assertEqual(name, "plan")
                self.assertLessEqual(fewest_rounds(log, gone), len(rounds))

    def test_circles(self):
        chance = random.Random(97)
        found = 0
        while found < 60:
            log = log_of("".join(chance.choice("abcd") for _ in range(chance.randint(8, 11))))
            gone = [i for i in range(len(log)) if next_of(log, i) is not None and chance.random() < 0.5]
            name, told = steady(log, gone)
            if name == "none" and told[0] == "circle":
                found += 1
                self.check_paper(log, gone, [], told)
                if len(gone) < 5:
                    self.assertEqual(all_plans(log, gone, [], len(gone)), [])


class Papers(unittest.TestCase):
    def some(self, seed, many, sizes):
        chance = random.Random(seed)
        for _ in range(many):
            log = log_of(some_word(chance, chance.choice(sizes)))
            gone = [i for i in range(len(log)) if chance.random() < 0.4]
            yield log, gone, some_bounds(chance, gone, 2)

    def test_never_both(self):
        for log, gone, bounds in self.some(98, 400, (1, 2, 3, 4, 5, 6)):
            positions = range(-1, len(log) + 1)
            chains = [[]]
            for _ in range(min(4, len(gone) + 1)):
                chains = chains + [chain + [p] for chain in chains for p in gone[:4]]
            papers = [("newest", i) for i in positions] + [("circle", chain) for chain in chains[:700]]
            papers += [("late", chain) for chain in chains[:700]]
            papers += [("pair", i, p, q) for i in positions for p in positions for q in positions]
            shown = [paper for paper in papers if shows_no_plan(log, gone, paper, bounds=bounds)]
            right = [paper for paper in papers if shows_no_plan_by_words(log, gone, bounds, paper)]
            self.assertEqual(shown, right)
            if steady(log, gone, bounds=bounds)[0] == "plan":
                self.assertEqual(shown, [])

    def test_chains(self):
        for log, gone, bounds in self.some(99, 300, (3, 4, 5, 6, 7)):
            chains = [[]]
            for _ in range(3):
                chains = chains + [chain + [p] for chain in chains for p in gone[:5]]
            for chain in chains[:300]:
                for number in range(4):
                    found = shows_rounds(log, gone, number, chain, bounds=bounds)
                    self.assertIs(found, shows_rounds_by_words(log, gone, bounds, number, chain))

    def test_bent_papers(self):
        for log, gone, bounds in self.some(100, 300, (4, 5, 6, 7, 8)):
            name, told = steady(log, gone, bounds=bounds)
            if name == "none":
                for value in bent_parts(told):
                    found = shows_no_plan(log, gone, value, bounds=bounds)
                    self.assertIs(found, shows_no_plan_by_words(log, gone, bounds, value), (log, gone, value))

    def test_bent_chains(self):
        chance = random.Random(101)
        for _ in range(150):
            log = log_of(some_word(chance, chance.randint(4, 9)))
            gone = some_gone(chance, log, 6)
            bounds = some_bounds(chance, gone, 2)
            if steady(log, gone, bounds=bounds)[0] == "plan":
                number = fewest_rounds(log, gone, bounds=bounds)
                for value in bent_parts(longest_chain(log, gone, bounds=bounds)):
                    for other in (number, number - 1, number + 1):
                        found = shows_rounds(log, gone, other, value, bounds=bounds)
                        self.assertIs(found, shows_rounds_by_words(log, gone, bounds, other, value), (log, gone, value))


class Reachable(unittest.TestCase):
    def check(self, log):
        reached = reached_by_rounds(log)
        for gone in subsets(range(len(log))):
            found = reachable(log, gone)
            self.assertEqual(found is not None, frozenset(gone) in reached, (log, gone))
            if found is not None:
                self.assertTrue(is_order_by_words(log, gone, found))
            else:
                self.assertFalse(any(is_order_by_words(log, gone, list(row)) for row in permutations(gone)))

    def test_small_logs(self):
        for log in logs_up_to(5):
            self.check(log)

    def test_some_longer_logs(self):
        chance = random.Random(102)
        for size in (6, 6, 6, 7, 7, 8):
            self.check(log_of(some_word(chance, size)))

    def test_one_range_marks_what_point_28_says(self):
        for log in logs_up_to(4):
            for a, b in all_ranges(log):
                self.assertEqual(set(after(log, [[(a, b)]])[0]), marks_standing(log, set(range(len(log))), a, b))


if __name__ == "__main__":
    unittest.main()
