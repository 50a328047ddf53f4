import itertools
import re
import unittest

from everso.errors import NoText
from everso.worths import is_worth
from everso.worthtexts import read_worth, show_worth
from samples import anything

GREATEST = 10 ** 15


def rows_within(many, inner=None):
    """many rows one within another, the innermost of inner alone, or of nothing, and its text."""
    worth, text = (("row", ()), "[]") if inner is None else (("row", (inner,)), f"[{inner}]")
    for _ in range(many - 1):
        worth, text = ("row", (worth,)), f"[{text}]"
    return worth, text


def row_of_worths(many):
    """A row with many worths in it in all, itself too, and its text."""
    rows, rest = divmod(many - 1, 41)
    full = ("row", (1,) * 40)
    text = "[" + " ".join(["[" + " ".join("1" * 40) + "]"] * rows + ["1"] * rest) + "]"
    return ("row", (full,) * rows + (1,) * rest), text


PAIRS = (
    (None, "none"), (True, "yes"), (False, "no"),
    (0, "0"), (1, "1"), (-1, "-1"), (7, "7"), (10, "10"), (-10, "-10"), (-205, "-205"), (1000000, "1000000"),
    (GREATEST, "1" + "0" * 15), (-GREATEST, "-1" + "0" * 15), (GREATEST - 1, "9" * 15), (1 - GREATEST, "-" + "9" * 15),
    ("", "''"), (" ", "' '"), ("  ", "'  '"), ("a", "'a'"), ("none", "'none'"), ("1", "'1'"), ("a b", "'a b'"),
    (" a  b ", "' a  b '"), ("[", "'['"), ("]", "']'"), ("[1 2]", "'[1 2]'"), ("(", "'('"), (")", "')'"),
    ("] [", "'] ['"), ("#1", "'#1'"), ("a.b", "'a.b'"), ("a:b", "'a:b'"), ("\\", "'\\'"), ("\"", "'\"'"), ("~", "'~'"),
    ("-0", "'-0'"), ("x" * 20, "'" + "x" * 20 + "'"), (" " * 20, "'" + " " * 20 + "'"),
    (("row", ()), "[]"), (("row", (1,)), "[1]"), (("row", (True,)), "[yes]"), (("row", (1, True)), "[1 yes]"),
    (("row", (None, "a b", -3)), "[none 'a b' -3]"), (("row", ("",)), "['']"), (("row", (" ", "]")), "[' ' ']']"),
    (("row", (("row", ()),)), "[[]]"), (("row", (("row", ()), ("row", ()))), "[[] []]"),
    (("row", (1, ("row", (2, ("row", (3,)))), 4)), "[1 [2 [3]] 4]"), (("row", ("thing", 5)), "['thing' 5]"),
    (("row", (("thing", 5), ("deed", "a", "b"), ("kind", "a", "b"))), "[#5 a.b a:b]"),
    (("row", (1,) * 40), "[" + " ".join("1" * 40) + "]"),
    (("row", (("row", ()),) * 40), "[" + " ".join(["[]"] * 40) + "]"),
    rows_within(2), rows_within(8), rows_within(8, 1), row_of_worths(199), row_of_worths(200),
    (("thing", 0), "#0"), (("thing", 7), "#7"), (("thing", GREATEST), "#1" + "0" * 15),
    (("deed", "a", "b"), "a.b"), (("deed", "main", "go"), "main.go"), (("deed", "none", "yes"), "none.yes"),
    (("deed", "abcdefgh", "zzzzzzzz"), "abcdefgh.zzzzzzzz"), (("kind", "a", "b"), "a:b"),
    (("kind", "main", "no"), "main:no"),
    (("kind", "abcdefgh", "zzzzzzzz"), "abcdefgh:zzzzzzzz"),
)

NO_TEXTS = (
    "", " ", "  ", "\n", "None", "True", "False", "true", "nil", "NONE", "Yes", "none ", " none", "none\n", "\nnone",
    "nonenone", "none none", "yesno", "a", "main", "row", "thing", "abc",
    # figures
    "00", "01", "007", "-0", "-00", "-01", "-", "--1", "+1", "1-", "1-1", "- 1", "-1 ", " 1", "1 ", "1\n", "1 2", "1.0",
    "1.", ".1", "1e3", "1_0", "0x1", "1,0", "0" * 40, "1" + "0" * 16, "1" + "0" * 14 + "1" + "0", "1000000000000001",
    "-1000000000000001", "9999999999999999", "9" * 17, "9" * 40, "-" + "9" * 40, "9" * 4000, "9" * 5000, "9" * 8000,
    "-" + "9" * 7999, "0" * 8000, "[" + "9" * 5000 + "]", "#" + "9" * 5000, "\u0661", "\u00b2", "1\u0661",
    # texts
    "'", "'a", "a'", "'''", "''''", "'a'b'", "'a'b", "b'a'", "'a''b'", "'a' 'b'", " 'a'", "'a' ", "\"a\"", "`a`",
    "'" + "x" * 21 + "'", "'" + chr(37) + "'", "'a" + chr(37) + "b'", "'\n'", "'a\nb'", "'\t'", "'\u00e9'",
    "'" + "x" * 7998 + "'", "[1 'a]", "['a 1]", "[' ]", "'[", "'[1]",
    # rows
    "[", "]", "[[", "]]", "[]]", "[[]", "][", "[1", "1]", "[1]]", "[[1]", "[1 [2]", "[ ]", "[ 1]", "[1 ]", "[1  2]",
    " [1]", "[1] ", "[1]\n", "[1\n2]", "[1\t2]", "[1,2]", "[1, 2]", "[][]", "[] []", "[1][2]", "[1[2]]", "[[1]2]",
    "[[][]]", "[1 [2 ]]", "['a''b']", "['a'1]", "[1'a']", "[#1#2]", "(1)", "(1 2)", "()", "{}", "(]", "[)", "[(1)]",
    "([1])", "[1 2)", "(1 2]", "[" * 40, "]" * 8000, "[" * 40 + "]" * 40, "[-0]", "[01]", "[a]", "[none none",
    "[" + " ".join("1" * 41) + "]", "[" + " ".join(["[]"] * 41) + "]", "[[" + " ".join("1" * 41) + "]]",
    "[" + " ".join("1" * 3999) + "]", rows_within(9)[1], rows_within(9, 1)[1], rows_within(20)[1], rows_within(40)[1],
    row_of_worths(201)[1], row_of_worths(206)[1], "[1 " + rows_within(8)[1] + "]",
    # things, deeds, kinds
    "#", "#-1", "#-0", "#00", "#01", "# 1", "#1 ", "#a", "##1", "1#", "#1#", "#'1'", "#[1]", "#1000000000000001",
    "#yes",
    ".", ":", "a.", ".b", "a:", ":b", "a.b.c", "a:b:c", "a.b:c", "a:b.c", "a..b", "a::b", "a. b", "a .b", "a .b",
    "a :b",
    "A.b", "a.B", "a1.b", "a.1", "1.a", "abcdefghi.b", "a.abcdefghi", "a:abcdefghi", "abcdefghi:a", "a.b ", " a.b",
    "a.b\n", "a-b", "a/b", "'a'.b", "a.'b'", "[a].b", "#a.b", "-a.b",
)


class Told(unittest.TestCase):
    def check_refused(self, text):
        with self.subTest(repr(text)[:80]):
            for ask in (lambda: read_worth(text), lambda: read_worth(text=text)):
                with self.assertRaises(NoText) as caught:
                    ask()
                self.assertEqual(repr(caught.exception.line), "0")


class Pairs(Told):
    def test_the_samples_are_worths(self):
        for worth, text in PAIRS:
            self.assertIs(is_worth(worth), True, text)

    def test_each_is_written_so(self):
        for worth, text in PAIRS:
            with self.subTest(text):
                self.assertEqual(show_worth(worth), text)
                self.assertEqual(show_worth(worth=worth), text)
                self.assertIs(type(show_worth(worth)), str)

    def test_each_is_read_so(self):
        for worth, text in PAIRS:
            with self.subTest(text):
                # By its repr, which tells True and 1 apart, too.
                self.assertEqual(repr(read_worth(text)), repr(worth))
                self.assertEqual(repr(read_worth(text=text)), repr(worth))

    def test_each_has_a_text_of_its_own(self):
        texts = [show_worth(worth) for worth, _ in PAIRS]
        self.assertEqual(len(set(texts)), len({repr(worth) for worth, _ in PAIRS}))

    def test_each_sign_of_a_text_goes_there_and_back(self):
        for k in range(32, 127):
            if k not in (37, 39):
                for worth in (chr(k), chr(k) * 20, "a" + chr(k) + "b", ("row", (chr(k), 1, chr(k) + " "))):
                    self.assertEqual(read_worth(show_worth(worth)), worth)

    def test_numbers_go_there_and_back(self):
        great = [sign * (10 ** k + more) for sign in (1, -1) for k in range(15) for more in (-1, 0, 1)]
        for number in [*range(-120, 121), *great]:
            self.assertEqual(show_worth(number), str(number))
            self.assertEqual(repr(read_worth(str(number))), repr(number))


class Refused(Told):
    def test_what_is_not_so_written(self):
        for text in NO_TEXTS:
            self.check_refused(text)

    def test_such_a_thing_in_a_row(self):
        # With brackets, blanks and quotes in it, it may well be some other row.
        for text in NO_TEXTS:
            if text and not set(text) & set("[]' "):
                self.check_refused(f"[{text}]")
                self.check_refused(f"[1 {text}]")
                self.check_refused(f"[{text} 1]")
                self.check_refused(f"[[{text}]]")

    def test_what_is_no_worth_of_this_form_or_no_text(self):
        for thing in anything() + (1.5, b"1", PAIRS):
            if thing != "none":
                self.check_refused(thing)

    def test_each_sign_that_no_text_has(self):
        for k in [*range(32), 37, *range(127, 400)]:
            self.check_refused(f"'{chr(k)}'")
            self.check_refused(f"['a{chr(k)}']")

    def test_what_is_handed_in_is_not_changed(self):
        thing = ["1", {"a": ["2"]}]
        self.check_refused(thing)
        self.assertEqual(thing, ["1", {"a": ["2"]}])


# What the document says of a text, told another way: an expression for each depth of rows.
SINGLE = r"none|yes|no|0|-?[1-9][0-9]*|'[ -$&(-~]{0,20}'|#(?:0|[1-9][0-9]*)|[a-z]{1,8}[.:][a-z]{1,8}"


def shape(deep):
    if deep == 0:
        return f"(?:{SINGLE})"
    inner = shape(deep - 1)
    return rf"(?:{SINGLE}|\[(?:{inner}(?: {inner})*)?\])"


SHAPE = re.compile(shape(3))


class Everywhere(Told):
    """Of very many short texts just those of the right shape are read."""

    def check(self, text):
        try:
            worth = read_worth(text)
        except NoText as refusal:
            self.assertEqual(refusal.line, 0)
            self.assertIsNone(SHAPE.fullmatch(text), text)
        else:
            self.assertIsNotNone(SHAPE.fullmatch(text), text)
            self.assertIs(is_worth(worth), True, text)
            self.assertEqual(show_worth(worth), text)

    def test_all_short_texts_of_some_signs(self):
        for many in range(5):
            for signs in itertools.product("01-' []#.:a", repeat=many):
                self.check("".join(signs))

    def test_texts_put_otherwise_by_one_sign(self):
        for text in ("[1 'a b' [none #12] a.b m:k -30]", "'[ 1 ]'", "[[] [[]] [yes no]]", "-105", "#10"):
            for k in range(len(text) + 1):
                self.check(text[:k] + text[k + 1:])
                for sign in map(chr, range(32, 127)):
                    self.check(text[:k] + sign + text[k:])
                    self.check(text[:k] + sign + text[k + 1:])


if __name__ == "__main__":
    unittest.main()
