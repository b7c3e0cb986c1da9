"""Points 5 (i), 34 and 35: live logs deed by deed, against records that are followed by hand."""

import random
import unittest

from markthenpurge.live import LiveLog
from markthenpurge.logs import marked, swept
from tests.followed import Followed

VALUES = [None, None, 0, 1, -1, 10 ** 30 - 1]


def some_records(chance, most):
    return [(chance.choice("abc"), chance.choice(VALUES)) for _ in range(chance.randint(0, most))]


class Whole(unittest.TestCase):
    def compare(self, log, hand):
        rows = hand.standing()
        self.assertEqual(log.records, [(row[1], row[2]) for row in rows])
        self.assertEqual(log.standing, [row[0] for row in rows])
        self.assertEqual(log.marked, [row[0] for row in rows if row[4]])
        self.assertEqual((log.deeds, len(log)), (len(hand.past), len(rows)))
        self.assertEqual(list(log), [tuple(row[:3]) for row in rows])
        self.assertEqual(list(log.current().items()), hand.current())
        for key in ("a", "b", "c", "d"):
            for offset in range(len(hand.rows)):
                self.assertEqual(log.read(key, offset), hand.read(key, offset))

    def do(self, chance, log, hand):
        """One deed, or some deeds back, of both."""
        deed = chance.choice(["append", "append", "append", "purge", "purge", "sweep", "drop", "back"])
        if deed == "append":
            key, value = chance.choice("abcd"), chance.choice(VALUES)
            self.assertEqual(log.append(key, value), hand.append(key, value))
        elif deed == "purge" and hand.rows:
            a, b = sorted([chance.randrange(len(hand.rows)), chance.randrange(len(hand.rows))])
            self.assertEqual(log.purge(a, b), hand.purge(a, b))
        elif deed in ("sweep", "drop"):
            self.assertEqual(log.sweep(drop=deed == "drop"), hand.sweep(deed == "drop"))
        elif deed == "back":
            count = chance.randint(0, min(4, len(hand.past)))
            log.back(count=count)
            hand.back(count)

    def test_deed_by_deed(self):
        chance = random.Random(131)
        for _ in range(150):
            records = some_records(chance, 6)
            log, hand = LiveLog(records), Followed(records)
            self.compare(log, hand)
            for _ in range(25):
                self.do(chance, log, hand)
                self.compare(log, hand)
            log.back(count=log.deeds)
            self.compare(log, Followed(records))

    def test_two_logs_by_turns(self):
        chance = random.Random(132)
        pairs = [(LiveLog(records), Followed(records)) for records in ([], some_records(chance, 9))]
        for _ in range(150):
            self.do(chance, *chance.choice(pairs))
            for log, hand in pairs:
                self.compare(log, hand)

    def test_standing_records_and_functions_of_logs(self):
        chance = random.Random(133)
        for _ in range(600):
            log = LiveLog(some_records(chance, 7) + [("a", None)])
            offsets = log.standing
            for _ in range(chance.randint(0, 5)):
                offsets.append(log.append(chance.choice("abcd"), chance.choice(VALUES)))
                log.purge(*sorted([chance.choice(offsets), chance.choice(offsets)]))
                log.sweep(drop=chance.random() < 0.3)
            self.check_one_sweep(chance, log, len(offsets))

    def check_one_sweep(self, chance, log, many):
        """Purges and one sweep behind other ones, against functions of the log of what stands ahead of them."""
        before = log.records
        standing = log.standing
        ranges = []
        for _ in range(chance.randint(0, 3)):
            a, b = sorted([chance.randrange(many), chance.randrange(many)])
            log.purge(a, b)
            inside = [at for at, offset in enumerate(standing) if a <= offset <= b]
            if inside:
                ranges.append((inside[0], inside[-1]))
        known = marked(before, ranges)
        self.assertEqual(log.marked, [standing[at] for at in known])
        drop = chance.random() < 0.5
        right = swept(before, known, drop=drop)
        self.assertEqual(log.sweep(drop=drop), len(before) - len(right))
        self.assertEqual(log.records, right)


class LongLogs(unittest.TestCase):
    def test_200_records_and_300_deeds(self):
        chance = random.Random(134)
        records = [(chance.choice("abcdefgh"), chance.choice(VALUES)) for _ in range(100)]
        log, hand = LiveLog(records), Followed(records)
        for k in range(300):
            kind = k % 3
            if kind == 0:
                key = chance.choice("abcdefgh")
                self.assertEqual(log.append(key, k), hand.append(key, k))
            elif kind == 1:
                a, b = sorted([chance.randrange(len(hand.rows)), chance.randrange(len(hand.rows))])
                self.assertEqual(log.purge(a, b), hand.purge(a, b))
            elif k % 30 == 29:
                self.assertEqual(log.sweep(drop=True), hand.sweep(True))
        self.assertEqual(log.standing, [row[0] for row in hand.standing()])
        self.assertEqual(log.marked, [row[0] for row in hand.standing() if row[4]])
        self.assertEqual(list(log.current().items()), hand.current())
        log.back(count=log.deeds)
        self.assertEqual((log.records, log.deeds, log.marked), (records, 0, []))


if __name__ == "__main__":
    unittest.main()
