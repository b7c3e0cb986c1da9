"""Values of every kind, and those of them that are wrong in some place."""


class Stubborn:
    """A value that refuses every question."""

    def refuse(self, *told):
        raise RuntimeError("a foreign value was asked")

    __eq__ = __ne__ = __lt__ = __le__ = __gt__ = __ge__ = refuse
    __len__ = __iter__ = __bool__ = __hash__ = __repr__ = __str__ = refuse
    __getitem__ = __contains__ = __index__ = __int__ = refuse


def looped():
    rows = []
    rows.append(rows)
    return rows


def values_of_every_kind():
    """New values each time, since some of them can be used up."""
    return [
        None, True, False, 0, 1, 2, -1, 10 ** 40, 1.0, 0.5, float("nan"), float("inf"), 1j, "", "x", "0", "newest",
        b"x", bytearray(b"x"), (), [], {}, {0}, frozenset([0]), {0: 1}, {"x": 1}, object(), Stubborn(), int, list,
        len, lambda: 0, range(2), iter([0]), (i for i in [0]), Ellipsis, NotImplemented, looped(), ValueError("x"),
        [None], [True], [False], [0.0], ["0"], [Stubborn()], [[0]], [(0,)], (None,), (True,), (0.0,), ((0,),),
        (Stubborn(),), [-1], (-1,), [10 ** 40], [float("nan")], [{}], [0, None], (0, True), ("x", 0), ("x", 0, 0),
        ["x", 0], [["x", 0]], [("x",)], [()], ((0, 0),), [[0, 0]], [(0,)], [(0, 0, 0, 0)], [(Stubborn(), 0)],
        [(0, Stubborn())], ("inside", Stubborn(), 0), ("newest", Stubborn()), (Stubborn(), 0), [(Stubborn(), 0, 0)],
    ]


def all_but(is_right):
    return [value for value in values_of_every_kind() if not is_right(value)]


def wrong_integers(low, high):
    """Values that are not integers from low to high."""
    return all_but(lambda value: type(value) is int and low <= value <= high) + [low - 1, high + 1, float(low)]


def wrong_logs():
    keys = ["", "abcdefghi", "X", "xY", "x1", "x y", "x\n", "\u00e9", "\u0131", "x=", None, 1, True, b"x", ["x"]]
    values = [True, False, 1.0, "1", "", (), [], (None,), float("nan"), b"1"]
    records = [(key, 1) for key in keys] + [("x", value) for value in values]
    records += [("x",), ("x", 1, 2), (), ["x", 1], "xy", {"x": 1}, {"x", 1}, None, 5, (1, "x"), [("x", 1)]]
    found = all_but(is_empty_list) + [(("x", 1),), {("x", 1): 1}, {("x", 1)}, iter([("x", 1)])]
    return found + [[record] for record in records] + [[("x", 1), record] for record in records]


def is_empty_list(value):
    return type(value) is list and len(value) == 0


def wrong_positions(many):
    """Values that are not a list or tuple of positions of a log with this many records."""

    def is_right(value):
        return type(value) in (list, tuple) and all(type(part) is int and 0 <= part < many for part in value)

    found = [[many], (many,), [0, many], [1, -1], [0, True], [False, 1], [0, 1.0], [0, "1"], [0, [1]], [[0], [1]]]
    return all_but(is_right) + found + [range(many), {0, 1}, {0: 0}, "01", b"\x00", iter([0]), {0: 0}.keys()]


def wrong_ranges(many):
    """Values that are not a list of ranges of a log with this many records, two at the least."""
    parts = [
        (0, many), (many, many), (-1, 0), (-1, -1), (1, 0), (True, 1), (0, True), (False, False), (0.0, 1), (0, 1.0),
        (0, None), (None, 0), ("0", "1"), (0,), (), (0, 1, 1), [0, 1], {0, 1}, "01", 0, None, True, range(0, 2),
        ((0, 1),), [(0, 1)], (0, 10 ** 40), (-10 ** 40, 0),
    ]
    found = all_but(is_empty_list) + [((0, 0),), {(0, 0)}, {(0, 0): 1}, iter([(0, 0)]), (0, 0), [0, 0]]
    return found + [[part] for part in parts] + [[(0, 1), part] for part in parts]


def wrong_walls(many):
    """Values that are not a list or tuple of walls of a log with this many records, three at the least."""

    def is_right(value):
        return type(value) in (list, tuple) and all(type(part) is int and 1 <= part < many for part in value)

    found = [[0], [many], (1, many), [2, 0], [True], (True, 2), [1.0], ["1"], [None], [[1]], [(1,)], [-1]]
    return all_but(is_right) + found + [range(1, many), {1, 2}, {1: 1}, "12", b"\x01", iter([1])]


def wrong_seen_reads():
    """Values that are not a list of seen reads of the log x y x."""
    parts = [
        ("x", 3, None), ("x", -1, None), ("x", True, None), ("x", 0.0, None), ("x", None, None), ("x", "0", None),
        ("x", 10 ** 40, None), ("x", 1, 2), ("x", 2, 3), ("x", 2, -1), ("x", 2, True), ("x", 2, False),
        ("x", 2, 0.0), ("x", 2, "0"), ("x", 2, [0]), ("x", 2, 10 ** 40), ("x", 2, 1), ("y", 2, 2), ("y", 0, 1),
        ("z", 2, 0), ("", 2, None), ("X", 2, None), ("x1", 2, None), ("abcdefghi", 2, None), (1, 2, None),
        (None, 2, None), (b"x", 2, None), (["x"], 2, None), ("x", 2), ("x",), (), ("x", 2, None, None),
        ["x", 2, None], {"x", 2, None}, "xyz", None, 5, True, {"x": 2}, [("x", 2, None)], (("x", 2, None),),
    ]
    found = all_but(is_empty_list) + [(("x", 2, None),), {("x", 2, None)}, {("x", 2, None): 1}, ("x", 2, None)]
    return found + [[part] for part in parts] + [[("x", 2, None), part] for part in parts]


def wrong_amounts(many):
    """Values that are not lists with an integer from 0 on for each of this many positions, one or more."""
    parts = [-1, True, False, None, 1.0, "1", [1], (1,), float("nan"), -10 ** 40, 1j, b"1", {}]
    right = [1] * (many - 1)
    found = [value for value in values_of_every_kind() if type(value) is not list or len(value) != many]
    found += [[1] * (many - 1), [1] * (many + 1), (1,) * many, range(many), {i: 1 for i in range(many)}]
    found += [iter([1] * many), {*range(many)}, "1" * many, b"1" * many]
    return found + [[part] + right for part in parts] + [right + [part] for part in parts]


def wrong_reports(many):
    """Values that are not a list of reports of a log with this many records, three at the least."""
    ends = [-1, many, True, False, None, 1.0, "1", 10 ** 40, [0, 1], (0,), (), (0, 1, 2), (1, 0), (-1, 1), (0, many)]
    ends += [(True, 1), (0, True), (0.0, 1), (None, 1), (0, "1"), ((0, 1), 1), ([0], 1), {0, 1}, {0: 1}, range(2)]
    parts = [(end, 2) for end in ends] + [(0, end) for end in ends] + [((0, 2), end) for end in ends]
    parts += [(end, (0, 2)) for end in ends] + [((0, 1), (1, 2)), ((0, 0), (0, 0)), ((0, 1), (0, 1))]
    parts += [(2, 1), (2, (0, 1)), ((1, 2), 0), [0, 1], [0, (0, 1)], (0, 1, 2), (0,), (), 0, None, True, "01", {0, 1}]
    parts += [((0, 1),), [(0, 1)], Stubborn(), (Stubborn(), 1), (1, Stubborn()), (0, (Stubborn(), 1))]
    found = all_but(is_empty_list) + [((0, 1),), ((0, (0, 1)),), {(0, 1)}, {(0, 1): 1}, iter([(0, 1)]), (0, 1)]
    return found + [[part] for part in parts] + [[(0, (0, 2)), part] for part in parts]


def wrong_rounds(many):
    """Values that are not a list of lists of ranges of a log with this many records, two at the least."""
    parts = [part for part in wrong_ranges(many) if type(part) is not list or len(part) > 0]
    found = all_but(is_empty_list) + [([(0, 0)],), {0: [(0, 0)]}, iter([[(0, 0)]]), [(0, 0)], [((0, 0),)], [None]]
    return [value for value in found if not is_list_of_empty_lists(value)] + [[part] for part in parts] + [
        [[(0, 1)], part] for part in parts
    ]


def is_list_of_empty_lists(value):
    return type(value) is list and all(is_empty_list(part) for part in value)


def wrong_bounds(gone, other):
    """Values that are not a list or tuple of bounds of these positions, of which the other one is none."""
    i = gone[0]
    parts = [
        (i, 0, None), (i, -1, 3), (i, 1, 0), (i, 3, 2), (i, True, None), (i, 1, True), (i, True, True), (i, 1.0, None),
        (i, 1, 2.0), (i, None, None), (i, None, 2), (i, "1", None), (i, 1, "2"), (i, [1], None), (i, 1, [2]),
        (other, 1, None), (-1, 1, None), (10 ** 40, 1, None), (True, 1, None), (float(i), 1, None), (None, 1, None),
        (str(i), 1, None), ([i], 1, None), (i, 1), (i,), (), (i, 1, None, None), [i, 1, None], {i, 1}, i, None, True,
        "abc", ((i, 1, None),), [(i, 1, None)], (Stubborn(), 1, None), (i, Stubborn(), None), (i, 1, Stubborn()),
    ]
    found = all_but(lambda value: type(value) in (list, tuple) and len(value) == 0)
    found += [{(i, 1, None)}, {(i, 1, None): 1}, iter([(i, 1, None)]), (i, 1, None), [i, 1, None]]
    return found + [[part] for part in parts] + [((i, 1, None), part) for part in parts]


def wrong_reads():
    """Values that are not a list of reads of the log x y x."""
    parts = [
        ("x", 3), ("x", -1), ("x", True), ("x", False), ("x", 0.0), ("x", None), ("x", "0"), ("x", [0]),
        ("x", 10 ** 40), ("", 2), ("X", 2), ("x1", 2), ("x y", 2), ("abcdefghi", 2), (1, 2), (None, 2), (b"x", 2),
        (["x"], 2), ("\u00e9", 2),
        ("x",), (), ("x", 2, None), ["x", 2], {"x", 2}, "x2", None, 5, True, {"x": 2}, [("x", 2)], (("x", 2),),
        Stubborn(), (Stubborn(), 2), ("x", Stubborn()),
    ]
    found = all_but(is_empty_list) + [(("x", 2),), {("x", 2)}, {("x", 2): 1}, ("x", 2), iter([("x", 2)])]
    return found + [[part] for part in parts] + [[("x", 2), part] for part in parts]
