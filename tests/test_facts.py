"""Points 2, 4, 8, 9, 10 and the interface of facts.py, on chosen logs."""

import unittest

from markthenpurge.errors import InvalidLog, InvalidPosition, InvalidRange, InvalidRead, InvalidRules, NoResult
from markthenpurge.facts import Facts, allowed, conflict, greatest, is_result, least, reach, shows_conflict
from tests.small import log_of
from tests.wrong import values_of_every_kind, wrong_integers, wrong_logs, wrong_positions, wrong_seen_reads, wrong_walls

LOG = [("x", 1), ("y", 2), ("y", 3), ("x", 4)]


def five(facts):
    return (facts.log, facts.gone, facts.kept, facts.longest, facts.walls)


class Creating(unittest.TestCase):
    def test_only_a_log(self):
        self.assertEqual(five(Facts(LOG)), (LOG, [], [], None, []))
        self.assertEqual(five(Facts([])), ([], [], [], None, []))
        self.assertEqual(five(Facts([("x", None)])), ([("x", None)], [], [], None, []))

    def test_all_arguments_by_name(self):
        facts = Facts(log=LOG, gone=[0], kept=[2], longest=4, walls=[1])
        self.assertEqual(five(facts), (LOG, [0], [2], 4, [1]))

    def test_positions_and_walls_in_any_order_and_twice(self):
        for kind in (list, tuple):
            facts = Facts(LOG, gone=kind([3, 0, 3]), kept=kind([2, 1, 2, 0]), walls=kind([3, 1, 3]))
            self.assertEqual(five(facts), (LOG, [0, 3], [0, 1, 2], None, [1, 3]))

    def test_positions_far_behind_are_ascending_too(self):
        log = log_of("a" * 40)
        facts = Facts(log, gone=[33, 8, 1], kept=(32, 9, 2, 16), walls=[35, 8, 24])
        self.assertEqual(five(facts), (log, [1, 8, 33], [2, 9, 16, 32], None, [8, 24, 35]))
        more = facts.plus(gone=(17, 0), kept=[31, 18])
        self.assertEqual((more.gone, more.kept), ([0, 1, 8, 17, 33], [2, 9, 16, 18, 31, 32]))

    def test_the_edges_of_the_rules(self):
        self.assertEqual(Facts(LOG, longest=1, walls=(1, 3)).walls, [1, 3])
        self.assertEqual(Facts(LOG, longest=10 ** 40).longest, 10 ** 40)
        self.assertEqual(Facts([("x", 1)], longest=1, walls=()).walls, [])
        self.assertEqual(Facts([], longest=1, walls=[]).longest, 1)

    def test_the_facts_behind_the_log_are_passed_by_name_alone(self):
        with self.assertRaises(TypeError):
            Facts(LOG, [0])

    def test_wrong_logs(self):
        for value in wrong_logs():
            with self.assertRaises(InvalidLog):
                Facts(value)

    def test_wrong_positions(self):
        for value in wrong_positions(4):
            with self.assertRaises(InvalidPosition):
                Facts(LOG, gone=value)
            with self.assertRaises(InvalidPosition):
                Facts(LOG, kept=value)
        for value in [[0], (0,), [-1], None]:
            with self.assertRaises(InvalidPosition):
                Facts([], gone=value)
            with self.assertRaises(InvalidPosition):
                Facts([], kept=value)

    def test_wrong_rules(self):
        for value in values_of_every_kind():
            if value is not None and not (type(value) is int and value > 0):
                with self.assertRaises(InvalidRules):
                    Facts(LOG, longest=value)
        for value in wrong_walls(4):
            with self.assertRaises(InvalidRules):
                Facts(LOG, walls=value)
        for log in ([], LOG[:1]):
            for wall in (0, 1):
                with self.assertRaises(InvalidRules):
                    Facts(log, walls=[wall])

    def test_the_first_error_of_the_order_is_raised(self):
        with self.assertRaises(InvalidLog):
            Facts(None, gone=None, kept=None, longest=0, walls=None)
        with self.assertRaises(InvalidLog):
            Facts((), longest=0)
        with self.assertRaises(InvalidPosition):
            Facts(LOG, gone=[4], longest=0, walls=[0])
        with self.assertRaises(InvalidPosition):
            Facts(LOG, kept=[4], longest=0, walls=[0])
        with self.assertRaises(InvalidRules):
            Facts(LOG, gone=[0], kept=[0], longest=True, walls=[1])


class Copies(unittest.TestCase):
    def test_facts_keep_copies_of_what_they_receive(self):
        log, gone, kept, walls = list(LOG), [0], [2], [1]
        facts = Facts(log, gone=gone, kept=kept, walls=walls)
        log.append(("z", 1))
        gone.append(1)
        kept.clear()
        walls[0] = 3
        self.assertEqual(five(facts), (LOG, [0], [2], None, [1]))
        self.assertEqual(least(facts.exact([1])), [1])

    def test_arguments_are_not_changed(self):
        log, gone, kept, walls, reads = list(LOG), [3, 0, 3], [2, 1], [3, 1, 3], [("x", 3, None)]
        facts = Facts(log, gone=gone, kept=kept, walls=walls)
        facts.plus(gone=gone, kept=kept)
        facts.exact(gone)
        facts.with_reads(reads)
        self.assertEqual((log, gone, kept, walls), (LOG, [3, 0, 3], [2, 1], [3, 1, 3]))
        self.assertEqual(reads, [("x", 3, None)])

    def test_what_properties_return_is_a_copy(self):
        facts = Facts(LOG, gone=[0], kept=[2], walls=[1])
        for rows in (facts.log, facts.gone, facts.kept, facts.walls):
            self.assertIs(type(rows), list)
            rows.clear()
        self.assertEqual(five(facts), (LOG, [0], [2], None, [1]))
        self.assertEqual(len(facts), 4)
        self.assertEqual(conflict(facts), ("wall", 0, 1))

    def test_what_functions_return_is_a_copy(self):
        facts = Facts(LOG, gone=[1])
        least(facts).append(9)
        greatest(facts).clear()
        self.assertEqual((least(facts), greatest(facts)), ([1], [0, 1]))

    def test_the_properties_cannot_be_assigned(self):
        for name in ("log", "gone", "kept", "longest", "walls"):
            with self.assertRaises(AttributeError):
                setattr(Facts(LOG), name, [])

    def test_a_call_that_raises_changes_nothing(self):
        facts = Facts(LOG, gone=[0], kept=[2], longest=4, walls=[1])
        with self.assertRaises(InvalidPosition):
            facts.plus(gone=[1], kept=[4])
        with self.assertRaises(InvalidRead):
            facts.with_reads([("x", 3, 3), ("x", 3, 1)])
        self.assertEqual(five(facts), (LOG, [0], [2], 4, [1]))


class Methods(unittest.TestCase):
    def test_each_listed_method_stands_in_the_class_itself(self):
        names = ["log", "gone", "kept", "longest", "walls", "plus", "exact", "with_reads", "__len__", "__eq__"]
        for name in names + ["__init__"]:
            self.assertIn(name, vars(Facts))
        for function in (conflict, shows_conflict, is_result, least, greatest, allowed, reach):
            self.assertEqual(function.__module__, "markthenpurge.facts")

    def test_length(self):
        self.assertEqual([len(Facts(log)) for log in ([], LOG[:1], LOG)], [0, 1, 4])

    def test_equal_facts(self):
        first = Facts(LOG, gone=[0, 1], kept=[2], longest=3, walls=[1, 3])
        second = Facts(LOG, gone=(1, 0, 0), kept=(2, 2), longest=3, walls=(3, 1, 3))
        self.assertTrue(first == second)
        self.assertFalse(first != second)
        self.assertTrue(Facts([]) == Facts([]))

    def test_each_property_counts_for_equality(self):
        first = Facts(LOG, gone=[0], kept=[2], longest=3, walls=[1])
        others = [
            Facts(LOG[:3] + [("x", 5)], gone=[0], kept=[2], longest=3, walls=[1]),
            Facts(LOG, gone=[0, 1], kept=[2], longest=3, walls=[1]),
            Facts(LOG, gone=[0], kept=[], longest=3, walls=[1]),
            Facts(LOG, gone=[0], kept=[2], longest=4, walls=[1]),
            Facts(LOG, gone=[0], kept=[2], walls=[1]),
            Facts(LOG, gone=[0], kept=[2], longest=3, walls=[2]),
        ]
        for other in others:
            self.assertFalse(first == other)
            self.assertTrue(first != other)

    def test_other_values_are_not_equal(self):
        for value in values_of_every_kind():
            self.assertIs(Facts([]).__eq__(value), False)
        self.assertFalse(Facts(LOG) == LOG)

    def test_plus(self):
        facts = Facts(LOG, gone=[1], kept=[3], longest=3, walls=[1])
        self.assertTrue(facts.plus() == facts)
        self.assertEqual(five(facts.plus(gone=[0, 1, 0])), (LOG, [0, 1], [3], 3, [1]))
        self.assertEqual(five(facts.plus(gone=(0,), kept=(2, 0, 2))), (LOG, [0, 1], [0, 2, 3], 3, [1]))
        self.assertEqual(five(facts), (LOG, [1], [3], 3, [1]))

    def test_plus_raises(self):
        for value in wrong_positions(4):
            with self.assertRaises(InvalidPosition):
                Facts(LOG).plus(gone=value)
            with self.assertRaises(InvalidPosition):
                Facts(LOG).plus(kept=value)
        with self.assertRaises(TypeError):
            Facts(LOG).plus([0])

    def test_exact(self):
        facts = Facts(LOG, gone=[3], kept=[0], longest=3, walls=[1])
        self.assertEqual(five(facts.exact([1])), (LOG, [1], [0, 2, 3], 3, [1]))
        self.assertEqual(five(facts.exact(gone=(3, 0, 3))), (LOG, [0, 3], [1, 2], 3, [1]))
        self.assertEqual(five(facts.exact([])), (LOG, [], [0, 1, 2, 3], 3, [1]))
        self.assertEqual(five(Facts([]).exact(())), ([], [], [], None, []))

    def test_exact_raises(self):
        for value in wrong_positions(4):
            with self.assertRaises(InvalidPosition):
                Facts(LOG).exact(value)


class SeenReads(unittest.TestCase):
    LOG = log_of("xyxxyx")

    def gone_and_kept(self, reads):
        facts = Facts(self.LOG).with_reads(reads)
        return (facts.gone, facts.kept)

    def test_an_answer_is_kept_and_what_is_behind_it_is_gone(self):
        self.assertEqual(self.gone_and_kept([("x", 4, 0)]), ([2, 3], [0]))
        self.assertEqual(self.gone_and_kept([("x", 5, 2)]), ([3, 5], [2]))
        self.assertEqual(self.gone_and_kept([("x", 2, 2)]), ([], [2]))
        self.assertEqual(self.gone_and_kept([("y", 4, 1)]), ([4], [1]))

    def test_without_an_answer_all_up_to_the_place_are_gone(self):
        self.assertEqual(self.gone_and_kept([("x", 3, None)]), ([0, 2, 3], []))
        self.assertEqual(self.gone_and_kept([("y", 0, None)]), ([], []))
        self.assertEqual(self.gone_and_kept([("z", 5, None)]), ([], []))
        self.assertEqual(self.gone_and_kept([("x", 0, None)]), ([0], []))

    def test_several_reads(self):
        self.assertEqual(self.gone_and_kept([]), ([], []))
        self.assertEqual(self.gone_and_kept([("x", 4, 2), ("y", 5, None), ("x", 4, 2)]), ([1, 3, 4], [2]))
        self.assertEqual(self.gone_and_kept([("x", 5, 5), ("x", 5, 3)]), ([5], [3, 5]))

    def test_they_are_added_to_what_is_known(self):
        facts = Facts(self.LOG, gone=[1], kept=[5], longest=6, walls=[2])
        more = facts.with_reads(reads=[("x", 4, 2)])
        self.assertEqual(five(more), (self.LOG, [1, 3], [2, 5], 6, [2]))
        self.assertEqual(five(facts), (self.LOG, [1], [5], 6, [2]))

    def test_wrong_reads(self):
        for value in wrong_seen_reads():
            with self.assertRaises(InvalidRead):
                Facts(log_of("xyx")).with_reads(value)
        for value in [[("x", 0, None)], [("x", -1, None)], ()]:
            with self.assertRaises(InvalidRead):
                Facts([]).with_reads(value)
        self.assertEqual(five(Facts([]).with_reads([])), ([], [], [], None, []))


class Conflicts(unittest.TestCase):
    def test_the_example(self):
        facts = Facts([("x", 1), ("y", 2), ("y", 3), ("x", 4)], gone=[0], kept=[1])
        self.assertEqual(conflict(facts), ("inside", 1, 0))

    def test_one_of_each_kind(self):
        self.assertEqual(conflict(Facts(LOG, gone=[2])), ("newest", 2))
        self.assertEqual(conflict(Facts(LOG, gone=[0], longest=3)), ("long", 0))
        self.assertEqual(conflict(Facts(LOG, gone=[0], walls=[3])), ("wall", 0, 3))
        self.assertEqual(conflict(Facts(LOG, gone=[1], kept=[1])), ("inside", 1, 1))

    def test_none(self):
        for facts in [Facts([]), Facts(LOG), Facts(LOG, gone=[0], longest=4), Facts(LOG, gone=[1], walls=[1, 3])]:
            self.assertIsNone(conflict(facts))
        self.assertIsNone(conflict(facts=Facts(LOG, gone=[0, 1], kept=[2, 3])))

    def test_equal_facts_have_equal_conflicts(self):
        first = Facts(LOG, gone=[0, 2, 1], kept=[1, 0], longest=1, walls=[3, 1])
        second = Facts(LOG, gone=(1, 2, 0, 0), kept=(0, 1), longest=1, walls=(1, 3))
        self.assertEqual(conflict(first), conflict(second))

    def test_shown_ones(self):
        facts = Facts(LOG, gone=[0, 2], kept=[0, 1], longest=3, walls=[1, 3])
        for value in [("newest", 2), ("long", 0), ("wall", 0, 1), ("wall", 0, 3), ("inside", 1, 0), ("inside", 0, 0)]:
            self.assertIs(shows_conflict(facts, value), True)
        self.assertIs(shows_conflict(facts=facts, value=("newest", 0)), False)

    def test_shown_by_no_foreign_value(self):
        facts = Facts(LOG, gone=[0, 1, 2, 3], kept=[0, 1, 2, 3], longest=1, walls=[1, 2, 3])
        values = values_of_every_kind() + [
            ["newest", 2], ["inside", 0, 0], ("newest",), ("long",), ("wall",), ("inside",),
            ("newest", 2, 0), ("newest", 2, None), ("newest", True),
            ("newest", 2.0), ("newest", "2"), ("newest", [2]), ("newest", (2,)), ("newest", 4), ("newest", -1),
            ("newest", -2), ("newest", 10 ** 40), ("long", False), ("long", 0.0), ("long", None), ("long", 0, 0),
            ("wall", 0, True), ("wall", False, 1), ("wall", 0, 1.0), ("wall", 0), ("wall", 0, 4), ("wall", 0, 1, 1),
            ("inside", False, False), ("inside", True, 0), ("inside", 0), ("inside", 0, 0, 0), ("inside", 0.0, 0),
            ("kept", 0), ("gone", 0), ("Newest", 2), ("newest ", 2), (b"newest", 2), ("inside", 2, 2),
            ("inside", 2, 0), ("inside", -3, 0), ("long", -4), ("apart", [0, 1]), ("report", 0),
        ]
        for value in values:
            self.assertIs(shows_conflict(facts, value), False)

    def test_the_empty_log(self):
        for value in [("newest", 0), ("newest", -1), ("inside", 0, 0), ("wall", 0, 0), None]:
            self.assertIs(shows_conflict(Facts([]), value), False)


class Results(unittest.TestCase):
    def test_some_results(self):
        facts = Facts(log_of("abbaca"), gone=[1])
        self.assertEqual([least(facts), greatest(facts)], [[1], [0, 1, 3]])
        for value in [[1], [0, 1], [1, 3], [0, 1, 3]]:
            self.assertIs(is_result(facts, value), True)
        for value in [[], [0], [3], [0, 3], [1, 2], [0, 1, 3, 5]]:
            self.assertIs(is_result(facts=facts, value=value), False)

    def test_the_empty_log_one_record_and_one_key_alone(self):
        for log in ([], LOG[:1], log_of("abc")):
            self.assertEqual([least(Facts(log)), greatest(Facts(log))], [[], []])
            self.assertIs(is_result(Facts(log), []), True)
        facts = Facts(log_of("aaaa"), gone=[2], kept=[1])
        self.assertEqual([least(facts), greatest(facts)], [[2], [0, 2]])

    def test_the_least_result_holds_what_lies_inside(self):
        self.assertEqual(least(Facts(log_of("abcbca"), gone=[0])), [0, 1, 2])
        self.assertEqual(least(facts=Facts(log_of("abcbac"), gone=[0])), [0, 1])

    def test_the_rules_bound_the_greatest_result(self):
        log = log_of("abcbca")
        self.assertEqual(greatest(Facts(log, longest=6)), [0, 1, 2])
        self.assertEqual(greatest(Facts(log, longest=5)), [1, 2])
        self.assertEqual(greatest(Facts(log, longest=2)), [])
        self.assertEqual(greatest(Facts(log, longest=1)), [])
        self.assertEqual(greatest(Facts(log, walls=[1])), [1, 2])
        self.assertEqual(greatest(Facts(log, walls=[5])), [1, 2])
        self.assertEqual(greatest(Facts(log, walls=[4])), [1])
        self.assertEqual(greatest(facts=Facts(log, kept=[1])), [2])

    def test_no_result(self):
        for facts in [Facts(LOG, gone=[2]), Facts(LOG, gone=[0], longest=3), Facts(LOG, gone=[0], kept=[1])]:
            for function in (least, greatest):
                with self.assertRaises(NoResult) as caught:
                    function(facts)
                self.assertIs(shows_conflict(facts, caught.exception.paper), True)
                self.assertEqual(caught.exception.paper, conflict(facts))
            for value in [[], [0], [1], [2], [0, 1], [0, 1, 2]]:
                self.assertIs(is_result(facts, value), False)

    def test_foreign_values_are_no_results(self):
        facts = Facts(log_of("aab"))
        values = [value for value in values_of_every_kind() if not (type(value) is list and len(value) == 0)]
        values += [(0,), [False], [0.0], [0, 0], [-3], [3], {0}, {0: 0}, range(1), "0", [[0]], [(0,)], [None]]
        for value in values:
            self.assertIs(is_result(facts, value), False)
        self.assertIs(is_result(facts, [0]), True)
        self.assertIs(is_result(facts, []), True)

    def test_a_result_is_ascending_without_duplicates(self):
        facts = Facts(log_of("aaa"))
        self.assertIs(is_result(facts, [0, 1]), True)
        for value in [[1, 0], [0, 0], [0, 1, 1], [0, 1, 0]]:
            self.assertIs(is_result(facts, value), False)


class Ranges(unittest.TestCase):
    LOG = log_of("abcbca")

    def test_allowed(self):
        facts = Facts(self.LOG, kept=[2], longest=4, walls=[1])
        for a, b in [(0, 0), (5, 5), (1, 3), (2, 3), (3, 5), (1, 1)]:
            self.assertIs(allowed(facts, a, b), True)
        for a, b in [(0, 1), (1, 4), (1, 5), (2, 4), (0, 5)]:
            self.assertIs(allowed(facts=facts, a=a, b=b), False)

    def test_a_range_of_one_position_is_always_allowed(self):
        facts = Facts(self.LOG, gone=list(range(6)), kept=list(range(6)), longest=1, walls=[1, 2, 3, 4, 5])
        self.assertEqual([allowed(facts, a, a) for a in range(6)], [True] * 6)
        self.assertEqual([reach(facts, a) for a in range(6)], [0, 1, 2, 3, 4, 5])

    def test_walls_at_both_ends(self):
        facts = Facts(self.LOG, walls=[1, 5])
        self.assertEqual([reach(facts, a) for a in range(6)], [0, 4, 4, 4, 4, 5])

    def test_reach(self):
        self.assertEqual([reach(Facts(self.LOG), a) for a in range(6)], [5] * 6)
        self.assertEqual([reach(Facts(self.LOG, longest=2), a) for a in range(6)], [1, 2, 3, 4, 5, 5])
        self.assertEqual([reach(Facts(self.LOG, kept=[1, 2, 4]), a) for a in range(6)], [2, 2, 3, 5, 5, 5])
        self.assertEqual(reach(facts=Facts([("x", 1)]), a=0), 0)

    def test_also_if_there_is_a_conflict(self):
        facts = Facts(LOG, gone=[2], kept=[1])
        self.assertEqual([allowed(facts, 1, 2), allowed(facts, 2, 3), reach(facts, 0)], [False, True, 1])

    def test_ranges_that_are_none_of_the_log(self):
        facts = Facts(LOG)
        for value in wrong_integers(0, 3):
            with self.assertRaises(InvalidRange):
                allowed(facts, value, 3)
            with self.assertRaises(InvalidRange):
                allowed(facts, 0, value)
            with self.assertRaises(InvalidRange):
                allowed(facts, value, value)
        for a, b in [(1, 0), (3, 2), (0, 4), (4, 4), (-1, 0)]:
            with self.assertRaises(InvalidRange):
                allowed(facts, a, b)
        with self.assertRaises(InvalidRange):
            allowed(Facts([]), 0, 0)

    def test_positions_that_are_none(self):
        for value in wrong_integers(0, 3):
            with self.assertRaises(InvalidPosition):
                reach(Facts(LOG), value)
        with self.assertRaises(InvalidPosition):
            reach(Facts([]), 0)


if __name__ == "__main__":
    unittest.main()
