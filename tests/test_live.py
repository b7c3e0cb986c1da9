"""Points 34 and 35 and the interface of live.py, on chosen logs."""

import inspect
import unittest

from markthenpurge import live
from markthenpurge.errors import InvalidLog, InvalidRange, InvalidRead, NothingToUndo
from markthenpurge.live import LiveLog
from markthenpurge.logs import swept
from tests.wrong import Stubborn, values_of_every_kind, wrong_logs

RECORDS = [("x", 1), ("y", None), ("x", 2), ("y", 3), ("x", None)]


def state(log):
    """All that a live log shows."""
    return [log.records, log.standing, log.marked, log.deeds, len(log), list(log), log.current()]


def done_log():
    """A live log with deeds behind it: offsets 0 and 2 are removed, 3 is marked, 7 is the next one."""
    log = LiveLog(RECORDS)
    log.purge(0, 4)
    log.append("y", 7)
    log.back(count=2)
    log.purge(0, 4)
    log.sweep()
    log.append("y", 4)
    log.append("z", None)
    log.purge(3, 5)
    return log


class Interface(unittest.TestCase):
    def test_names_and_parameters(self):
        names = {
            "__init__": ["self", "records"], "append": ["self", "key", "value"], "purge": ["self", "a", "b"],
            "sweep": ["self", "drop"], "read": ["self", "key", "offset"], "current": ["self"],
            "back": ["self", "count"], "__len__": ["self"], "__iter__": ["self"],
        }
        for name, parameters in names.items():
            self.assertIn(name, vars(LiveLog))
            self.assertEqual(list(inspect.signature(vars(LiveLog)[name]).parameters), parameters)
        for name in ("records", "standing", "marked", "deeds"):
            self.assertIsInstance(vars(LiveLog)[name], property)
        self.assertEqual(LiveLog.__module__, live.__name__)

    def test_drop_and_count_by_name_alone(self):
        log = LiveLog(RECORDS)
        found = [inspect.signature(LiveLog.sweep).parameters["drop"]]
        found.append(inspect.signature(LiveLog.back).parameters["count"])
        self.assertEqual([part.kind for part in found], [inspect.Parameter.KEYWORD_ONLY] * 2)
        self.assertEqual([part.default for part in found], [False, 1])
        with self.assertRaises(TypeError):
            log.sweep(True)
        with self.assertRaises(TypeError):
            log.back(0)
        self.assertEqual(state(log), state(LiveLog(RECORDS)))

    def test_all_arguments_by_name(self):
        log = LiveLog(records=RECORDS)
        self.assertEqual(log.append(key="y", value=5), 5)
        self.assertEqual(log.purge(a=0, b=3), 2)
        self.assertEqual(log.sweep(drop=True), 2)
        self.assertEqual(log.read(key="y", offset=4), 3)
        log.back(count=3)
        self.assertEqual(state(log), state(LiveLog(RECORDS)))


class Deeds(unittest.TestCase):
    def test_an_empty_live_log(self):
        for log in (LiveLog(), LiveLog([]), LiveLog(())):
            self.assertEqual(state(log), [[], [], [], 0, 0, [], {}])
            self.assertEqual((log.sweep(), log.sweep(drop=True), log.deeds), (0, 0, 2))
            self.assertEqual(log.append("x", None), 0)
            self.assertEqual(log.purge(0, 0), 0)

    def test_first_records_are_no_deeds(self):
        for records in (RECORDS, tuple(RECORDS)):
            log = LiveLog(records)
            self.assertEqual(log.records, RECORDS)
            self.assertEqual((log.standing, log.marked, log.deeds, len(log)), ([0, 1, 2, 3, 4], [], 0, 5))
            self.assertEqual(log.append("abcdefgh", -5), 5)

    def test_iteration(self):
        log = LiveLog(RECORDS)
        log.purge(1, 3)
        log.sweep()
        self.assertEqual(list(log), [(0, "x", 1), (2, "x", 2), (3, "y", 3), (4, "x", None)])
        self.assertEqual([(offset, key, value) for offset, key, value in log], list(log))

    def test_a_log_may_change_while_it_is_iterated_over(self):
        log = LiveLog(RECORDS)
        found = []
        for row in log:
            found.append(row)
            log.append("z", 0)
            log.purge(0, 4)
            log.sweep()
        self.assertEqual(found, list(LiveLog(RECORDS)))

    def test_purges(self):
        log = LiveLog(RECORDS)
        self.assertEqual(log.purge(1, 4), 2)
        self.assertEqual((log.marked, log.standing), ([1, 2], [0, 1, 2, 3, 4]))
        self.assertEqual(log.purge(0, 4), 1)
        self.assertEqual(log.purge(0, 4), 0)
        self.assertEqual((log.marked, log.deeds), ([0, 1, 2], 3))

    def test_marked_records_still_count_as_later_ones(self):
        log = LiveLog(RECORDS)
        log.purge(2, 4)
        self.assertEqual(log.purge(0, 2), 1)
        self.assertEqual(log.marked, [0, 2])

    def test_removed_records_count_no_longer(self):
        log = LiveLog(RECORDS)
        log.purge(2, 4)
        self.assertEqual(log.sweep(), 1)
        self.assertEqual((log.standing, log.marked), ([0, 1, 3, 4], []))
        self.assertEqual(log.purge(0, 2), 0)
        self.assertEqual(log.purge(2, 2), 0)
        self.assertEqual(log.purge(0, 4), 2)
        self.assertEqual(log.marked, [0, 1])

    def test_offsets_go_on_behind_removed_records(self):
        log = LiveLog([("x", None)])
        self.assertEqual(log.sweep(drop=True), 1)
        self.assertEqual((log.append("x", 3), log.append("x", 4)), (1, 2))
        self.assertEqual(log.purge(0, 2), 1)
        self.assertEqual((log.standing, log.marked), ([1, 2], [1]))

    def test_sweeps(self):
        log = LiveLog(RECORDS)
        self.assertEqual((log.sweep(), log.deeds), (0, 1))
        log.purge(0, 4)
        self.assertEqual(log.sweep(), 3)
        self.assertEqual(log.records, [("y", 3), ("x", None)])
        self.assertEqual(log.sweep(), 0)
        self.assertEqual((log.marked, log.deeds), ([], 4))

    def test_tombstones(self):
        log = LiveLog(RECORDS)
        # An earlier record of x stands, so the tombstone at 4 stays; the one at 1 is not the newest.
        self.assertEqual(log.sweep(drop=True), 0)
        log.purge(2, 4)
        self.assertEqual(log.sweep(drop=True), 1)
        self.assertEqual(log.standing, [0, 1, 3, 4])
        log.purge(0, 4)
        # With what is marked, the tombstone at 4 has no earlier record any more.
        self.assertEqual(log.sweep(drop=True), 3)
        self.assertEqual(log.records, [("y", 3)])
        log = LiveLog([("z", None), ("x", 1), ("y", None), ("y", None), ("a", 0)])
        self.assertEqual(log.sweep(drop=True), 1)
        self.assertEqual(log.standing, [1, 2, 3, 4])
        log.purge(0, 4)
        self.assertEqual(log.sweep(), 1)
        self.assertEqual(log.sweep(drop=True), 1)
        self.assertEqual(log.records, [("x", 1), ("a", 0)])

    def test_a_tombstone_is_due_by_standing_records_alone(self):
        log = LiveLog([("x", 1), ("x", None), ("x", 2), ("x", None)])
        log.purge(0, 3)
        self.assertEqual(log.sweep(), 3)
        self.assertEqual(log.sweep(drop=True), 1)
        self.assertEqual(swept([("x", 1), ("x", None), ("x", 2), ("x", None)], [0, 1, 2], drop=True), [])

    def test_reads(self):
        log = done_log()
        self.assertEqual(list(log), [(3, "y", 3), (4, "x", None), (5, "y", 4), (6, "z", None)])
        self.assertEqual([log.read("y", offset) for offset in range(7)], [None, None, None, 3, 3, 4, 4])
        self.assertEqual([log.read("x", offset) for offset in (0, 4, 6)], [None, None, None])
        self.assertIsNone(log.read("other", 3))
        self.assertEqual(log.marked, [3])

    def test_current(self):
        self.assertEqual(LiveLog(RECORDS).current(), {"y": 3})
        log = LiveLog([("c", 1), ("b", None), ("a", 0), ("b", 5), ("c", -2), ("aa", 7), ("d", 2), ("d", None)])
        self.assertEqual(list(log.current().items()), [("a", 0), ("aa", 7), ("b", 5), ("c", -2)])


class Back(unittest.TestCase):
    def test_one_deed_after_another(self):
        log = LiveLog(RECORDS)
        states = [state(log)]
        deeds = [
            lambda: log.append("x", 9), lambda: log.purge(0, 5), lambda: log.sweep(), lambda: log.sweep(drop=True),
            lambda: log.append("q", None), lambda: log.purge(0, 0), lambda: log.sweep(drop=True),
        ]
        for deed in deeds:
            deed()
            states.append(state(log))
        self.assertEqual(log.deeds, 7)
        while len(states) > 1:
            states.pop()
            self.assertIsNone(log.back())
            self.assertEqual(state(log), states[-1])
        with self.assertRaises(NothingToUndo):
            log.back()

    def test_several_deeds_and_none(self):
        log = done_log()
        before = state(log)
        log.back(count=0)
        self.assertEqual(state(log), before)
        self.assertEqual(log.deeds, 5)
        log.back(count=5)
        self.assertEqual(state(log), state(LiveLog(RECORDS)))
        self.assertIsNone(log.back(count=0))
        self.assertEqual(log.append("x", 1), 5)

    def test_the_next_offset_is_as_before(self):
        log = LiveLog([("x", 1)])
        self.assertEqual([log.append("y", k) for k in range(3)], [1, 2, 3])
        log.back(count=2)
        self.assertEqual(log.append("z", 0), 2)
        with self.assertRaises(InvalidRange):
            log.purge(0, 3)
        self.assertEqual(log.records, [("x", 1), ("y", 0), ("z", 0)])

    def test_too_many_deeds(self):
        log = done_log()
        before = state(log)
        for count in (6, 7, 10 ** 40):
            with self.assertRaises(NothingToUndo):
                log.back(count=count)
            self.assertEqual(state(log), before)
        with self.assertRaises(NothingToUndo):
            LiveLog().back()


class Wrong(unittest.TestCase):
    def check_unchanged(self, error, call):
        log = done_log()
        before = state(log)
        with self.assertRaises(error):
            call(log)
        self.assertEqual(state(log), before)
        log.back()
        self.assertEqual((log.marked, log.deeds), ([], 4))

    def test_records(self):
        for value in wrong_logs():
            if type(value) is not tuple:
                with self.assertRaises(InvalidLog):
                    LiveLog(value)
            if type(value) is list and value:
                with self.assertRaises(InvalidLog):
                    LiveLog(tuple(value))
        for value in [None, True, {}, (1,), ("x", 1), ["x", 1], iter([("x", 1)])]:
            with self.assertRaises(InvalidLog):
                LiveLog(value)

    def test_append(self):
        for value in values_of_every_kind() + [Stubborn()]:
            if type(value) is not str or value not in ("x", "newest"):
                self.check_unchanged(InvalidLog, lambda log: log.append(value, 1))
            if value is not None and type(value) is not int:
                self.check_unchanged(InvalidLog, lambda log: log.append("x", value))
        for key in ("", "X", "abcdefghi", "x y", "x1", "\u00e9"):
            self.check_unchanged(InvalidLog, lambda log: log.append(key, 1))

    def test_purge(self):
        for value in values_of_every_kind() + [-1, 7, 8, 1.0, Stubborn()]:
            if type(value) is not int or not 0 <= value < 7:
                self.check_unchanged(InvalidRange, lambda log: log.purge(0, value))
                self.check_unchanged(InvalidRange, lambda log: log.purge(value, 6))
                self.check_unchanged(InvalidRange, lambda log: log.purge(value, value))
        self.check_unchanged(InvalidRange, lambda log: log.purge(4, 3))
        with self.assertRaises(InvalidRange):
            LiveLog().purge(0, 0)

    def test_read(self):
        for value in values_of_every_kind() + [-1, 7, 1.0, Stubborn()]:
            if type(value) is not int or not 0 <= value < 7:
                self.check_unchanged(InvalidRead, lambda log: log.read("x", value))
            if type(value) is not str or value not in ("x", "newest"):
                self.check_unchanged(InvalidRead, lambda log: log.read(value, 0))
        for key in ("", "X", "abcdefghi", "x y", "x1"):
            self.check_unchanged(InvalidRead, lambda log: log.read(key, 0))
        with self.assertRaises(InvalidRead):
            LiveLog().read("x", 0)

    def test_back(self):
        for value in values_of_every_kind() + [-1, 6]:
            if type(value) is not int or not 0 <= value < 6:
                self.check_unchanged(NothingToUndo, lambda log: log.back(count=value))

    def test_properties_are_not_assigned(self):
        log = done_log()
        for name in ("records", "standing", "marked", "deeds"):
            with self.assertRaises(AttributeError):
                setattr(log, name, [])


class Copies(unittest.TestCase):
    def test_what_is_returned_is_a_copy(self):
        log = done_log()
        before = state(log)
        for rows in [log.records, log.standing, log.marked, list(log), log.current()]:
            rows.clear()
        self.assertEqual(state(log), before)

    def test_what_is_received_is_copied(self):
        records = list(RECORDS)
        log = LiveLog(records)
        records.append(("x", 7))
        self.assertEqual(log.records, RECORDS)
        log.append("x", 8)
        self.assertEqual(records, RECORDS + [("x", 7)])

    def test_what_was_returned_stays_as_it_was(self):
        log = done_log()
        before = state(log)
        kept = [log.records, log.standing, log.marked, log.deeds, len(log), list(log), log.current()]
        log.append("y", 1)
        log.purge(0, 7)
        log.sweep(drop=True)
        self.assertEqual(kept, before)

    def test_two_live_logs_by_turns(self):
        one, other = LiveLog(RECORDS), LiveLog(RECORDS)
        one.append("x", 5)
        one.purge(0, 5)
        self.assertEqual(state(other), state(LiveLog(RECORDS)))
        other.purge(1, 3)
        one.sweep()
        self.assertEqual((other.marked, other.standing), ([1], [0, 1, 2, 3, 4]))
        one.back(count=3)
        other.sweep()
        self.assertEqual(one.records, RECORDS)
        self.assertEqual(other.standing, [0, 2, 3, 4])


if __name__ == "__main__":
    unittest.main()
