import copy
import unittest

from everso.worths import are_alike, is_name, is_plain, is_worth

GREATEST = 10 ** 15
FIGURES_40 = 10 ** 40 - 1


def rows_within(many, inner=None):
    """many rows one within another, the innermost of inner alone, or of nothing."""
    worth = ("row", () if inner is None else (inner,))
    for _ in range(many - 1):
        worth = ("row", (worth,))
    return worth


def row_of_worths(many, single=1):
    """A row with many worths in it in all, itself too, that are single where they have no parts."""
    full = ("row", (single,) * 40)
    parts = (full,) * ((many - 1) // 41)
    return ("row", parts + (single,) * (many - 1 - 41 * len(parts)))


def nested(kind, many):
    inner = kind()
    for _ in range(many - 1):
        inner = kind((inner,))
    return inner


def nested_dicts(many):
    inner = {}
    for _ in range(many - 1):
        inner = {"row": inner}
    return inner


def wide_and_deep():
    """Things that are no worths, as great as anything that is handed in may be."""
    return (
        nested(list, 40), nested(tuple, 40), nested_dicts(40), rows_within(20), rows_within(9),
        [1] * 19999, (1,) * 19999, ("row", (1,) * 19990), ("row", [1] * 19990),
        {k: k for k in range(9999)}, FIGURES_40, -FIGURES_40, "a" * 8000, "\n" * 8000,
        ("row", ("a" * 8000,)), ("row", (FIGURES_40,)), ("thing", FIGURES_40),
        ("thing", -FIGURES_40), ("deed", "a" * 8000, "a"), ("kind", "a", nested(list, 38)),
    )


NAMES = ("a", "z", "m", "az", "main", "none", "abcdefgh", "zzzzzzzz")
NO_NAMES = (
    "", "abcdefghi", "zzzzzzzzz", "a" * 8000, "A", "Z", "Main", "maiN", "0", "9", "a1", "1a", "a\n",
    "\n", "\na", "main\n", "abcdefg\n", "a b", " ", "a ", " a", "a_b", "a-b", "a.b", "`", "{",
    "\u00e9", "\u00aa", "\u00df", "\u0430", "a\u0301", "a\t", "a\0",
    None, True, False, 0, 1, FIGURES_40, (), ("a",), ("a", "b"), [], ["a"], {}, {"a": "a"},
    ("row", ()), ("row", ("a",)), ("deed", "a", "b"), ("a",) * 8,
) + wide_and_deep()

# Plain worths of each sort, with the edges that the bounds set.
PLAIN = (
    None, True, False, 0, 1, -1, 7, GREATEST, -GREATEST, GREATEST - 1,
    "", " ", "~", "a", "A", "0", "!", "#", "$", "&", "(", "[", "\\", "\"", "`", "none", "row",
    "a" * 20, " " * 20, "~" * 20, "thing",
    ("row", ()), ("row", (1,)), ("row", (None, True, 1, "a")), ("row", ("thing", 5)),
    ("row", ("deed", "a", "b")), ("row", (1,) * 40), ("row", (("row", ()),) * 40),
    rows_within(2), rows_within(8), rows_within(8, 1), ("row", (rows_within(7),) * 20),
    ("row", (1, rows_within(7, "a"), 1)), row_of_worths(199), row_of_worths(200),
)
UNPLAIN = (
    ("thing", 0), ("thing", 1), ("thing", GREATEST), ("deed", "main", "go"), ("kind", "a", "b"),
    ("deed", "abcdefgh", "abcdefgh"), ("kind", "abcdefgh", "a"), ("deed", "a", "a"),
)
NO_SINGLES = (
    GREATEST + 1, -GREATEST - 1, FIGURES_40, "a" * 21, " " * 21, "'", "a'", "it's", chr(37),
    "a" + chr(37), "\n", "a\n", "\t", "\0", "\x1f", "\x7f", "\u00e9", "\u00a0",
)
NO_REFERENCES = (
    ("thing", -1), ("thing", GREATEST + 1), ("thing", True), ("thing", False), ("thing", None),
    ("thing", "0"), ("thing", (0,)), ("thing", [0]), ("thing",), ("thing", 0, 0), ["thing", 0],
    ("deed",), ("deed", "a"), ("deed", "a", "b", "c"), ("deed", "", "a"), ("deed", "a", ""),
    ("deed", "abcdefghi", "a"), ("deed", "a", "abcdefghi"), ("deed", "A", "a"), ("deed", "a", "a1"),
    ("deed", "a\n", "a"), ("deed", "a", 1), ("deed", None, "a"), ("deed", True, "a"), ("deed", "a", ["b"]),
    ["deed", "a", "b"], ("deed", ("a", "b")), ("kind",), ("kind", "a"), ("kind", "a", "b", "c"),
    ("kind", "", "a"), ("kind", "a", ""), ("kind", "abcdefghi", "a"), ("kind", "a", "abcdefghi"),
    ("kind", "a", "B"), ("kind", "a b", "a"), ("kind", 1, "a"), ("kind", "a", False), ["kind", "a", "b"],
    ("thing", "a", "b"), ("row", "a", "b"), ("deed", 0), ("kind", 0), ("fiend", "a", "b"), ("things", 0),
)
NO_ROWS = (
    ("row",), ("row", 1), ("row", None), ("row", "a"), ("row", "thing"), ("row", ""), ("row", []),
    ("row", [1]), ("row", {}), ("row", {1: 1}), ("row", (), ()), ("row", (1,), 1), ["row", ()],
    ("row", (1,) * 41), ("row", (1,) * 400), ("row", (("row", (1,) * 41),)), ("Row", ()), ("rows", (1,)),
    ("", ()), (None, ()), (True, ()), (["row"], ()), (("row",), ()), ({}, ()), ((), ("row", ())),
    rows_within(9), rows_within(9, 1), rows_within(20), ("row", (1, rows_within(8))),
    row_of_worths(201), row_of_worths(206), row_of_worths(1000), ("row", (("row", (1,) * 40),) * 5),
    ("row", ("word", 1), ("word", 2)), ("row", ((),)), ("row", ((1, 2),)), ("row", ([],)), ("row", ({},)),
)
OTHERS = (
    (), (1,), (1, 2), (1, 2, 3), (None,), ("a",), ("a", "b"), ("a", "b", "c"), ("a", "b", "c", "d"),
    ([], 1), ({}, 1), ([], "a", "b"), ({}, "a", "b"), ([], []), ((), ()), [], [1], [[]], [("row", ())],
    {}, {"row": ()}, {"thing": 0}, {0: 0},
)
NO_WORTHS = NO_SINGLES + NO_REFERENCES + NO_ROWS + OTHERS + wide_and_deep()


class Told(unittest.TestCase):
    def check(self, asked, things, told):
        for thing in things:
            with self.subTest(asked=asked.__name__, thing=repr(thing)[:80]):
                before = copy.deepcopy(thing)
                self.assertIs(asked(thing), told)
                self.assertIs(asked(thing=thing), told)
                self.assertEqual(repr(thing), repr(before))


class Names(Told):
    def test_one_to_eight_letters_are_a_name(self):
        self.check(is_name, NAMES, True)

    def test_each_letter_is_one(self):
        self.check(is_name, "abcdefghijklmnopqrstuvwxyz", True)

    def test_no_other_sign_is_one(self):
        self.check(is_name, [chr(k) for k in range(0x250) if chr(k) not in "abcdefghijklmnopqrstuvwxyz"], False)

    def test_all_else_is_no_name(self):
        self.check(is_name, NO_NAMES, False)


class Worths(Told):
    def test_plain_ones_are_worths(self):
        self.check(is_worth, PLAIN, True)

    def test_things_deeds_kinds_are_worths(self):
        self.check(is_worth, UNPLAIN, True)

    def test_rows_of_them_are_worths(self):
        self.check(is_worth, [("row", (worth,)) for worth in UNPLAIN], True)
        self.check(is_worth, [rows_within(8, worth) for worth in UNPLAIN], True)
        self.check(is_worth, [("row", UNPLAIN), ("row", (UNPLAIN[0],) * 40)], True)

    def test_all_else_is_no_worth(self):
        self.check(is_worth, NO_WORTHS, False)

    def test_a_row_with_what_is_no_worth_in_it_is_none(self):
        for thing in NO_WORTHS:
            rows = [("row", (thing,)), ("row", (1, "a", thing)), ("row", (thing, 1)), rows_within(3, thing)]
            self.check(is_worth, rows, False)

    def test_the_bound_of_all_worths_counts_each_one(self):
        for single in (1, None, "a", ("thing", 0), ("deed", "a", "b"), ("row", ())):
            self.check(is_worth, [row_of_worths(199, single), row_of_worths(200, single)], True)
            self.check(is_worth, [row_of_worths(201, single), row_of_worths(206, single)], False)

    def test_it_counts_those_further_within(self):
        self.check(is_worth, [rows_within(5, row_of_worths(195)), rows_within(1, row_of_worths(199))], True)
        self.check(is_worth, [rows_within(5, row_of_worths(196)), rows_within(1, row_of_worths(200))], False)

    def test_each_sign_that_a_text_may_have(self):
        for k in range(0x180):
            fits = 32 <= k <= 126 and k not in (37, 39)
            for text in (chr(k), "a" + chr(k), chr(k) + "a", "a" * 19 + chr(k)):
                self.check(is_worth, [text], fits)
                self.check(is_plain, [text], fits)


class PlainOnes(Told):
    def test_what_has_no_thing_deed_kind_in_it_is_plain(self):
        self.check(is_plain, PLAIN, True)

    def test_things_deeds_kinds_are_not_plain(self):
        self.check(is_plain, UNPLAIN, False)

    def test_rows_with_one_in_them_are_not_plain(self):
        for worth in UNPLAIN:
            rows = [("row", (worth,)), ("row", (1, worth)), ("row", (worth, 1)), rows_within(8, worth)]
            self.check(is_plain, rows, False)

    def test_what_is_no_worth_is_not_plain(self):
        self.check(is_plain, NO_WORTHS, False)
        self.check(is_plain, [("row", (thing,)) for thing in NO_WORTHS], False)


UNLIKE = (
    None, True, False, 0, 1, -1, 2, GREATEST, -GREATEST, "", " ", "0", "1", "a", "A", "none", "yes", "row",
    "thing", "deed", ("thing", 0), ("thing", 1), ("thing", GREATEST), ("deed", "a", "b"), ("deed", "b", "a"),
    ("deed", "a", "a"), ("kind", "a", "b"), ("kind", "b", "a"), ("kind", "a", "a"),
    ("row", ()), ("row", (None,)), ("row", (True,)), ("row", (False,)), ("row", (0,)), ("row", (1,)),
    ("row", (1, 1)), ("row", (1, True)), ("row", (True, 1)), ("row", (True, True)), ("row", (1, 2)),
    ("row", (2, 1)), ("row", (1, 2, 3)), ("row", ("1",)), ("row", ("",)), ("row", ("row",)), ("row", ("thing", 0)),
    ("row", ("thing", False)), ("row", (("thing", 0),)), ("row", (("thing", 1),)), ("row", ("deed", "a", "b")),
    ("row", (("deed", "a", "b"),)), ("row", (("kind", "a", "b"),)), ("row", (("row", ()),)),
    ("row", (("row", ()), ("row", ()))), ("row", (("row", (1,)),)), ("row", (("row", (True,)),)),
    ("row", (1, ("row", (1,)))), ("row", (("row", (1,)), 1)), rows_within(8), rows_within(7),
    rows_within(8, 1), rows_within(8, True), rows_within(8, 0), rows_within(8, False),
    row_of_worths(200), row_of_worths(199), ("row", (1,) * 40), ("row", (1,) * 39 + (True,)),
)


class Alike(unittest.TestCase):
    def test_just_the_same_of_one_sort_are_alike(self):
        for k, one in enumerate(UNLIKE):
            for other_k, other in enumerate(UNLIKE):
                # Made anew, so that none is alike for being the same object.
                again = eval(repr(other))
                with self.subTest(one=repr(one)[:60], other=repr(other)[:60]):
                    self.assertIs(are_alike(one, again), k == other_k)

    def test_arguments_go_by_names(self):
        self.assertIs(are_alike(one=1, other=1), True)
        self.assertIs(are_alike(other=True, one=1), False)

    def test_the_same_is_told_the_same(self):
        for one in UNLIKE:
            self.assertIs(are_alike(one, True), are_alike(one, True))


if __name__ == "__main__":
    unittest.main()
