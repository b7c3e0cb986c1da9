"""Point 4 and the interface of errors.py."""

import unittest

from markthenpurge import errors

WITH_TEXT = [
    "InvalidLog", "InvalidPosition", "InvalidRange", "InvalidRules", "InvalidRead", "InvalidPrice", "InvalidNumber",
    "InvalidResult", "InvalidReport", "InvalidBound", "NothingToUndo", "InvalidText", "InvalidCommand",
]
WITH_PAPER = ["NoResult", "NoPlan"]


class ErrorClasses(unittest.TestCase):
    def test_the_base_is_a_value_error(self):
        self.assertEqual(errors.PurgeError.__bases__, (ValueError,))
        self.assertEqual(errors.PurgeError.__module__, "markthenpurge.errors")

    def test_each_class_stands_directly_under_the_base(self):
        for name in WITH_TEXT + WITH_PAPER:
            with self.subTest(name):
                kind = getattr(errors, name)
                self.assertEqual(kind.__bases__, (errors.PurgeError,))
                self.assertEqual(kind.__module__, "markthenpurge.errors")

    def test_there_are_no_other_classes(self):
        found = [name for name, value in vars(errors).items() if isinstance(value, type)]
        self.assertEqual(sorted(found), sorted(["PurgeError"] + WITH_TEXT + WITH_PAPER))

    def test_created_with_one_text(self):
        for name in WITH_TEXT:
            with self.subTest(name):
                kind = getattr(errors, name)
                with self.assertRaises(errors.PurgeError) as caught:
                    raise kind("what is wrong")
                self.assertEqual(str(caught.exception), "what is wrong")

    def test_created_with_a_paper_by_position_or_by_name(self):
        for name in WITH_PAPER:
            for paper in [("newest", 0), ("apart", [1, 2]), [("gone", 1), ("inside", 1, 2)], []]:
                with self.subTest(name, paper=paper):
                    kind = getattr(errors, name)
                    self.assertEqual(kind(paper).paper, paper)
                    self.assertEqual(kind(paper=paper).paper, paper)
                    self.assertIs(type(kind(paper).paper), type(paper))
                    with self.assertRaises(kind) as caught:
                        raise kind(paper)
                    self.assertEqual(caught.exception.paper, paper)

    def test_a_paper_is_required(self):
        for name in WITH_PAPER:
            with self.assertRaises(TypeError):
                getattr(errors, name)()

    def test_the_paper_is_kept_as_a_copy(self):
        for name in WITH_PAPER:
            inner = [1, 2]
            paper = ("apart", inner)
            rows = [("gone", 1), [2]]
            first = getattr(errors, name)(paper)
            second = getattr(errors, name)(paper=rows)
            inner.append(3)
            rows[1].append(3)
            rows.pop(0)
            self.assertEqual(first.paper, ("apart", [1, 2]))
            self.assertEqual(second.paper, [("gone", 1), [2]])


if __name__ == "__main__":
    unittest.main()
