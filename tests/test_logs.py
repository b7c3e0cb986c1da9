"""Points 2, 4, 6, 7, the function of point 34, and the interface of logs.py."""

import unittest

from markthenpurge.errors import InvalidLog, InvalidPosition, InvalidRange
from markthenpurge.logs import arcs, check_log, marked, newest, swept
from tests.small import all_ranges, log_of, logs_up_to, marks_of_all, next_of, subsets
from tests.wrong import wrong_logs, wrong_positions, wrong_ranges

LOG = [("x", 1), ("y", 2), ("y", 3), ("x", 4)]


class CheckLog(unittest.TestCase):
    def test_logs(self):
        for log in [[], LOG, [("a", None)], [("z", -5)], [("abcdefgh", 0)], [("x", 10 ** 40), ("x", None)]]:
            self.assertIsNone(check_log(log))
            self.assertIsNone(check_log(log=log))

    def test_other_values(self):
        for value in wrong_logs():
            with self.assertRaises(InvalidLog):
                check_log(value)

    def test_each_function_raises_invalid_log_first(self):
        calls = [arcs, newest, lambda log: marked(log, []), lambda log: marked(log, None)]
        calls += [lambda log: swept(log, []), lambda log: swept(log, None), lambda log: swept(log, [9], drop=True)]
        for call in calls:
            for value in wrong_logs():
                with self.assertRaises(InvalidLog):
                    call(value)


class ArcsAndNewest(unittest.TestCase):
    def test_some_logs(self):
        self.assertEqual(arcs(LOG), [(0, 3), (1, 2)])
        self.assertEqual(newest(LOG), [2, 3])
        self.assertEqual(arcs(log_of("aaaa")), [(0, 1), (1, 2), (2, 3)])
        self.assertEqual(newest(log_of("aaaa")), [3])
        self.assertEqual(arcs(log_of("abcd")), [])
        self.assertEqual(newest(log_of("abcd")), [0, 1, 2, 3])
        self.assertEqual(arcs(log=LOG), [(0, 3), (1, 2)])
        self.assertEqual(newest(log=LOG), [2, 3])

    def test_the_empty_log_and_one_record(self):
        self.assertEqual((arcs([]), newest([])), ([], []))
        self.assertEqual((arcs([("x", None)]), newest([("x", None)])), ([], [0]))

    def test_a_key_is_compared_whole(self):
        self.assertEqual(arcs([("a", 1), ("ab", 1), ("b", 1), ("ab", 1)]), [(1, 3)])

    def test_all_small_logs(self):
        for log in logs_up_to(6):
            pairs = [(i, next_of(log, i)) for i in range(len(log))]
            self.assertEqual(arcs(log), [pair for pair in pairs if pair[1] is not None])
            self.assertEqual(newest(log), [i for i, later in pairs if later is None])


class Marked(unittest.TestCase):
    def test_the_example(self):
        self.assertEqual(marked([("x", 1), ("y", 2), ("y", 3), ("x", 4)], [(0, 3), (2, 3)]), [0, 1])

    def test_some_ranges(self):
        self.assertEqual(marked(LOG, []), [])
        self.assertEqual(marked([], []), [])
        self.assertEqual(marked([("x", 1)], [(0, 0)]), [])
        self.assertEqual(marked(LOG, [(0, 0), (1, 1), (2, 2), (3, 3)]), [])
        self.assertEqual(marked(LOG, [(1, 2)]), [1])
        self.assertEqual(marked(LOG, [(0, 2), (1, 3)]), [1])
        self.assertEqual(marked(log=LOG, ranges=[(0, 3)]), [0, 1])

    def test_order_and_repetition_of_ranges_do_not_matter(self):
        self.assertEqual(marked(log_of("aabb"), [(2, 3), (0, 1), (2, 3)]), [0, 2])
        self.assertEqual(marked(log_of("aaaa"), [(2, 3), (0, 1)]), [0, 2])

    def test_marked_records_still_count_as_later_ones(self):
        self.assertEqual(marked(log_of("aaa"), [(1, 2), (0, 1)]), [0, 1])

    def test_all_pairs_of_ranges_of_small_logs(self):
        for log in logs_up_to(4):
            for first in all_ranges(log):
                for second in all_ranges(log):
                    self.assertEqual(marked(log, [first, second]), marks_of_all(log, [first, second]))

    def test_all_ranges_of_longer_logs(self):
        for log in logs_up_to(6):
            for a, b in all_ranges(log):
                self.assertEqual(marked(log, [(a, b)]), marks_of_all(log, [(a, b)]))

    def test_other_values(self):
        for value in wrong_ranges(4):
            with self.assertRaises(InvalidRange):
                marked(LOG, value)
        for value in [[(0, 0)], [(0, -1)], [(-1, -1)], ()]:
            with self.assertRaises(InvalidRange):
                marked([], value)

    def test_nothing_is_changed(self):
        log = list(LOG)
        ranges = [(2, 3), (0, 3)]
        first = marked(log, ranges)
        first.append(9)
        self.assertEqual((log, ranges), (LOG, [(2, 3), (0, 3)]))
        self.assertEqual(marked(log, ranges), [0, 1])


class Swept(unittest.TestCase):
    def test_what_remains(self):
        self.assertEqual(swept(LOG, []), LOG)
        self.assertEqual(swept(LOG, [0, 1]), [("y", 3), ("x", 4)])
        self.assertEqual(swept(LOG, [0, 1, 2, 3]), [])
        self.assertEqual(swept([], []), [])
        self.assertEqual(swept([], (), drop=True), [])

    def test_lists_and_tuples_in_any_order_and_twice(self):
        for gone in [[2, 0, 2], (2, 0, 2), (0, 2), [0, 0, 2, 2]]:
            self.assertEqual(swept(LOG, gone), [("y", 2), ("x", 4)])
        self.assertEqual(swept(log=LOG, gone=(3,), drop=False), LOG[:3])

    def test_tombstones_stay_without_drop(self):
        log = [("x", 1), ("x", None), ("y", None)]
        self.assertEqual(swept(log, [0]), [("x", None), ("y", None)])
        self.assertEqual(swept(log, [0], drop=False), [("x", None), ("y", None)])

    def test_a_tombstone_is_dropped_if_all_earlier_records_are_removed(self):
        log = [("x", 1), ("y", 2), ("x", 3), ("x", None)]
        self.assertEqual(swept(log, [0, 2], drop=True), [("y", 2)])
        self.assertEqual(swept(log, [2], drop=True), [("x", 1), ("y", 2), ("x", None)])
        self.assertEqual(swept(log, [0], drop=True), [("y", 2), ("x", 3), ("x", None)])

    def test_a_tombstone_without_earlier_records_is_dropped(self):
        self.assertEqual(swept([("x", None)], [], drop=True), [])
        self.assertEqual(swept([("y", 0), ("x", None)], [], drop=True), [("y", 0)])

    def test_only_a_newest_tombstone_of_the_whole_log_is_dropped(self):
        self.assertEqual(swept([("x", None), ("x", 1)], [], drop=True), [("x", None), ("x", 1)])
        self.assertEqual(swept([("x", None), ("x", None)], [], drop=True), [("x", None), ("x", None)])
        self.assertEqual(swept([("x", None), ("x", None)], [0], drop=True), [])
        # The first record is newest only among what remains.
        self.assertEqual(swept([("x", None), ("x", 1)], [1], drop=True), [("x", None)])
        self.assertEqual(swept([("x", None), ("x", None)], [1], drop=True), [("x", None)])

    def test_drop_is_passed_by_name_alone(self):
        with self.assertRaises(TypeError):
            swept(LOG, [], True)

    def test_all_small_logs(self):
        for base in logs_up_to(4):
            for tombs in subsets(range(len(base))):
                log = [(key, None if i in tombs else i) for i, (key, i) in enumerate(base)]
                for gone in subsets(range(len(log))):
                    remaining = [i for i in range(len(log)) if i not in gone]
                    self.assertEqual(swept(log, gone), [log[i] for i in remaining])
                    standing = [i for i in remaining if not is_done(log, gone, i)]
                    self.assertEqual(swept(log, gone, drop=True), [log[i] for i in standing])

    def test_other_values(self):
        for value in wrong_positions(4):
            for drop in [False, True]:
                with self.assertRaises(InvalidPosition):
                    swept(LOG, value, drop=drop)
        for value in [[0], (0,), [-1], None]:
            with self.assertRaises(InvalidPosition):
                swept([], value)

    def test_nothing_is_changed(self):
        log = list(LOG)
        gone = [2, 0, 2]
        swept(log, gone, drop=True).clear()
        swept(log, []).clear()
        self.assertEqual((log, gone), (LOG, [2, 0, 2]))


def is_done(log, gone, i):
    """Whether record i is a tombstone that is due, as point 34 says it."""
    earlier = [j for j in range(i) if log[j][0] == log[i][0]]
    return log[i][1] is None and next_of(log, i) is None and all(j in gone for j in earlier)


if __name__ == "__main__":
    unittest.main()
