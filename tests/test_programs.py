import copy
import unittest

from everso.programs import is_deed, is_program
from samples import (
    A, DEED_ROWS, EXPRESSIONS, FULL, ONE, ROWS, anything, as_lists, deed, kind, module, put_otherwise,
    shortened_and_lengthened, within,
)

LEAVE = ("leave",)
TELL = ("tell", A)
GIVE = ("give", "x", A)
NO_NAMES = (
    "", "abcdefghi", "A", "aB", "a1", "a b", " a", "a\n", "-", None, True, 0, 1, (), ("a",), ["a"], {}, ("name", "a"),
)
NO_PLAIN = (
    ("thing", 0), ("deed", "a", "b"), ("kind", "a", "b"), ("row", (("thing", 0),)),
    ("row", (1, ("row", (("deed", "a", "b"),)))),
    10 ** 15 + 1, -(10 ** 15) - 1, "x" * 21, "it's", chr(37), "\n", (), (1,), [], [1], {}, ("row", [1]), ("row", 1),
    ("row", (1,) * 41), ("worth", 1), ("name", "a"), ("thing", -1), ("thing", True),
)
NO_EXPRESSIONS = (
    None, True, False, 0, 1, "", "a", "name", (), ("name",), ("name", "a", "b"), ("names", "a"), ("own", "a"),
    ("around", 1, "a"), ("cell", "main", "a"), (None, "a"), (True, "a"), (("name",), "a"), (["name"], "a"), ({}, "a"),
    ["name", "a"], [], {}, {"name": "a"}, LEAVE, ("say", A), ("let", "a", ONE), ("do", A), (), (A,), (A, A),
    ("plus", A, ONE),
    ("plus", (A, ONE)), ("not", A), ("=", 1), ("", "a"), ("Name", "a"), ("row",), ("row", A), ("row", (A,), (A,)),
)
NO_ROWS = (
    None, True, 0, "", "leave", "say", (), [], {}, ["leave"], ["say", A], A, ONE, ("do",), ("do", A, A), ("leave", 1),
    ("leave", ()), ("leave", A), ("", A), (None, A), (True, A), (("do",), A), (["do"], A), ({}, A), ((), ()),
    ("does", A),
    ("Do", A), ("call", A, ()), ("deed", (), ()), ("if", A, ()), ("if", A, (), (), ()), ("while", A), ("each", "a", A),
    ("try", ()), ("try", (), None), ("try", (), None, (), ()), ("let", ("own", "a"), A),
    ("let", ("cell", "main", "a"), A),
    ("def", (), ()), ((("say", A),),),
)


class Told(unittest.TestCase):
    def check(self, asked, thing, told):
        with self.subTest(asked=asked.__name__, thing=repr(thing)[:160]):
            self.assertIs(asked(thing), told)
            self.assertIs(asked(thing=thing), told)

    def check_rows(self, rows, in_deed, in_module=None):
        """The rows are right in each deed, or in none; and so in a module's rows."""
        self.check(is_deed, deed(*rows), in_deed)
        self.check(is_deed, deed(("do", within(*rows))), in_deed)
        self.check(is_program, (module(deeds=(("go", deed(*rows)),)),), in_deed)
        self.check(is_program, (module(kinds=(("box", kind(("go", deed(*rows)))),)),), in_deed)
        self.check(is_program, (module(("do", within(*rows))),), in_deed)
        self.check(is_program, (module(*rows),), in_deed if in_module is None else in_module)

    def check_expression(self, expression, told):
        """It is right wherever an expression stands, or nowhere."""
        self.check_rows((("do", expression),), told)
        for row in (
            ("let", "x", expression), ("keep", "x", expression), ("put", expression, "x", A),
            ("put", A, "x", expression),
            ("out", expression, "x"), ("say", expression), ("raise", expression), ("if", expression, (), ()),
            ("while", expression, ()), ("each", "x", expression, ()), ("tell", expression), ("give", "x", expression),
            ("do", ("row", (A, expression))), ("do", ("word", "plus", (A, expression))),
            ("do", ("word", "not", (expression,))),
            ("do", ("field", expression, "x")), ("do", ("has", expression, "x")), ("do", ("fields", expression)),
            ("do", ("new", expression, ())), ("do", ("new", A, (expression,))), ("do", ("call", expression, ())),
            ("do", ("call", A, (A, expression))), ("do", ("send", expression, "x", ())),
            ("do", ("send", A, "x", (expression, A))), ("do", ("wake", expression, A)), ("do", ("wake", A, expression)),
        ):
            self.check(is_deed, deed(row), told)


class Expressions(Told):
    def test_each_is_one(self):
        for expression in EXPRESSIONS:
            self.check_expression(expression, True)

    def test_all_else_is_none(self):
        for thing in NO_EXPRESSIONS:
            self.check_expression(thing, False)

    def test_a_part_less_or_more(self):
        for expression in EXPRESSIONS:
            for thing in shortened_and_lengthened(expression):
                self.check(is_deed, deed(("do", thing)), False)

    def test_lists_are_no_tuples(self):
        for expression in EXPRESSIONS:
            for thing in as_lists(expression):
                self.check(is_deed, deed(("do", thing)), False)

    def test_names(self):
        for n in NO_NAMES:
            for expression in (
                ("name", n), ("far", n, "a"), ("far", "a", n), ("field", A, n), ("has", A, n), ("send", A, n, ()),
                ("ask", n),
                ("deed", (n,), ()), ("deed", ("a", n), ()), ("deed", (n, "a", "b"), ()),
            ):
                self.check(is_deed, deed(("do", expression)), False)

    def test_worths_are_plain(self):
        for worth in NO_PLAIN:
            self.check_expression(("worth", worth), False)

    def test_es_are_at_most_eight(self):
        for many in range(11):
            es = (ONE,) * many
            for expression in (("row", es), ("new", A, es), ("call", A, es), ("send", A, "b", es)):
                self.check(is_deed, deed(("do", expression)), many <= 8)

    def test_es_are_a_tuple_of_expressions(self):
        for es in (
            None, True, 0, 1, "", "a", [], [ONE], {}, A, ONE, (1,), ("a",), (None,), ((),), (ONE, 1), (1, ONE), ([],),
        ):
            for expression in (
                ("row", es), ("new", A, es), ("call", A, es), ("send", A, "b", es), ("word", "plus", es),
            ):
                self.check(is_deed, deed(("do", expression)), False)

    def test_a_word_has_as_many_as_it_takes(self):
        for many, verbs in (
            (2, ("plus", "minus", "times", "over", "rest", "less", "same", "join", "at")), (1, ("not", "size", "sort")),
        ):
            for verb in verbs:
                for es in range(10):
                    self.check(is_deed, deed(("do", ("word", verb, (ONE,) * es))), es == many)

    def test_there_are_no_other_words(self):
        for verb in (
            "", "and", "or", "add", "Plus", "plus ", "row", "word", "call", "name", None, True, 0, 1, 2, (), ("plus",),
            ["plus"], {},
            {"plus": 2},
        ):
            for es in ((), (ONE,), (ONE, ONE), (ONE, ONE, ONE)):
                self.check(is_deed, deed(("do", ("word", verb, es))), False)

    def test_deep_ones(self):
        expression, wrong = ONE, ("worth", ("thing", 0))
        for _ in range(30):
            expression, wrong = ("wake", A, expression), ("wake", A, wrong)
        self.check(is_deed, deed(("do", expression)), True)
        self.check(is_deed, deed(("do", wrong)), False)


class Rows(Told):
    def test_each_is_one(self):
        for row in ROWS:
            self.check_rows((row,), True)
        self.check_rows(ROWS, True)
        self.check_rows((), True)

    def test_all_else_is_none(self):
        for thing in NO_ROWS:
            self.check_rows((thing,), False)
            self.check_rows((("do", A), thing), False)
            self.check_rows((thing, ("do", A)), False)

    def test_a_part_less_or_more(self):
        for row in ROWS + DEED_ROWS:
            for thing in shortened_and_lengthened(row):
                self.check(is_deed, deed(thing), False)

    def test_lists_are_no_tuples(self):
        for row in ROWS + DEED_ROWS:
            for thing in as_lists(row):
                self.check(is_deed, deed(thing), False)

    def test_names(self):
        for n in NO_NAMES:
            for row in (
                ("let", n, A), ("keep", n, A), ("put", A, n, A), ("out", A, n), ("give", n, A), ("each", n, A, ()),
                ("try", (), (n, ()), ()),
            ):
                self.check(is_deed, deed(row), False)

    def test_expressions(self):
        for e in NO_EXPRESSIONS:
            for row in (
                ("let", "x", e), ("keep", "x", e), ("put", e, "x", A), ("put", A, "x", e), ("out", e, "x"), ("say", e),
                ("do", e),
                ("tell", e), ("raise", e), ("give", "x", e), ("if", e, (), ()), ("while", e, ()), ("each", "x", e, ()),
            ):
                self.check(is_deed, deed(row), False)

    def test_bodies(self):
        for rows in (
            None, True, 0, 1, "", "a", [], [("do", A)], {}, ("do", A), LEAVE, A, (A,), (None,), ((),), (("do", A), ()),
            ([],),
        ):
            for row in (
                ("if", A, rows, ()), ("if", A, (), rows), ("while", A, rows), ("each", "x", A, rows),
                ("try", rows, None, ()),
                ("try", (), None, rows), ("try", (), ("x", rows), ()), ("do", ("deed", (), rows)),
            ):
                self.check(is_deed, deed(row), False)

    def test_caughts(self):
        for caught in (
            False, True, 0, "", "x", (), ("x",), ("x", (), ()), ("x", None), ("x", [()]), ["x", ()], ((), "x"), [], {},
            {"x": ()},
            (None, ()), (("x", ()),), ("x", ("do", A)), ("-", ()),
        ):
            self.check_rows((("try", (), caught, ()),), False)

    def test_tell_and_give_only_in_a_deed(self):
        for row in DEED_ROWS:
            for rows in self.around(row):
                self.check_rows(rows, True, in_module=False)
            self.check_rows((("do", within(row)),), True)
            self.check_rows((("while", A, (("do", within(row)),)),), True)
            self.check_rows((("do", within(("do", within(row)))), ("do", A)), True)
            self.check_rows((("do", within(("do", A))), row), True, in_module=False)

    def test_leave_only_within_a_loop(self):
        for loop in (lambda *rows: ("while", A, rows), lambda *rows: ("each", "x", A, rows)):
            for rows in self.around(LEAVE, loops=False):
                self.check_rows(rows, False)
                self.check_rows((loop(), *rows), False)
                self.check_rows((*rows, loop()), False)
                self.check_rows((loop(*rows),), True)
                self.check_rows((loop(("say", A), *rows, ("say", A)),), True)
                self.check_rows((("if", A, (loop(("if", A, (), rows)),), ()),), True)
                self.check_rows((loop(loop(), *rows),), True)
                self.check_rows((loop(loop(*rows)),), True)
                self.check_rows((loop(loop(*rows)), *rows), False)

    def test_leave_in_a_deed_within_a_loop(self):
        for loop in (lambda *rows: ("while", A, rows), lambda *rows: ("each", "x", A, rows)):
            for rows in self.around(LEAVE, loops=False):
                self.check_rows((loop(("do", within(*rows))),), False)
                self.check_rows((loop(loop(("do", within(*rows)))),), False)
                self.check_rows((loop(("do", within(loop(*rows)))),), True)
                self.check_rows((("do", within(loop(*rows))),), True)
                self.check_rows((("do", within(loop(*rows), *rows)),), False)
                self.check_rows((loop(("do", within()), *rows),), True)
            # The test of a loop, and what an each goes over, stand in no body of it.
            self.check_rows((("while", within(LEAVE), ()),), False)
            self.check_rows((("each", "x", within(LEAVE), ()),), False)

    def around(self, row, loops=True):
        """Rows in which a row stands, in each kind of body."""
        yield (row,)
        yield (("do", A), row, ("do", A))
        yield (("if", A, (row,), ()),)
        yield (("if", A, (), (row,)),)
        yield (("try", (row,), None, ()),)
        yield (("try", (), ("x", (row,)), ()),)
        yield (("try", (), None, (row,)),)
        yield (("if", A, (("try", (), ("x", (("if", A, (), (row,)),)), ()),), ()),)
        if loops:
            yield (("while", A, (row,)),)
            yield (("each", "x", A, (row,)),)


class Deeds(Told):
    def test_takes(self):
        for takes in (
            (), ("a",), ("a", "b"), ("b", "a"), ("a", "b", "c"), ("a", "b", "c", "d"), ("d", "b", "c", "a"), ("main",),
            ("abcdefgh",),
        ):
            self.check_takes(takes, True)

    def test_wrong_takes(self):
        for takes in (
            ("a", "b", "c", "d", "e"), ("a", "a"), ("a", "b", "a"), ("a", "b", "c", "a"), ("a", "b", "b", "c"), ["a"],
            [], {}, {"a": 1},
            None, True, 0, "", "a", "ab", (1,), (None,), (True,), ((),), (("a",),), (["a"],), ({},), (A,), ("a", 1),
            (1, "a"), ("A",),
            ("",), ("abcdefghi",), ("a",) * 1000,
        ):
            self.check_takes(takes, False)

    def check_takes(self, takes, told):
        self.check(is_deed, (takes, ()), told)
        self.check(is_deed, (takes, (("tell", ONE),)), told)
        self.check(is_deed, deed(("do", ("deed", takes, ()))), told)
        self.check(is_program, (module(deeds=(("go", (takes, ())),)),), told)
        self.check(is_program, (module(kinds=(("box", kind(("go", (takes, ())))),)),), told)

    def test_what_is_none(self):
        for thing in (
            None, True, 0, "", "deed", (), ((),), ((), (), ()), [(), ()], [[], []], ((), []), ([], ()), {}, {(): ()},
            ((), None), (None, ()),
            ((), ("do", A)), ("deed", (), ()), ("go", ((), ())), ((), 0), ((), ""), ("", ()), ((("do", A),), ()),
        ):
            self.check(is_deed, thing, False)
            self.check(is_program, (module(deeds=(("go", thing),)),), False)

    def test_of_anything(self):
        for thing in anything():
            self.check(is_deed, thing, thing == ((), ()) or thing == (("a",), ()))

    def test_bounds_are_not_asked_here(self):
        rows = (("do", ONE),) * 1000
        for _ in range(12):
            rows = (("if", A, rows, ()),)
        self.check(is_deed, deed(*rows), True)
        rows = (("tell", ONE), ("give", "x", ONE))
        for _ in range(8):
            rows = (("do", within(*rows)),)
        self.check(is_deed, deed(*rows), True)


class Kinds(Told):
    def check_kind(self, thing, told):
        self.check(is_program, (module(kinds=(("box", thing),)),), told)
        self.check(is_program, (module(kinds=(("a", kind()), ("box", thing))),), told)

    def test_what_is_one(self):
        for thing in (
            kind(), kind(above=("main", "box")), kind(above=("main", "none")), kind(above=("gone", "box")),
            kind(above=("a", "a")),
            kind(("go", deed())), kind(("box", deed())), kind(("main", deed())),
            kind(("make", deed(TELL, takes=("self",)))),
            kind(("a", deed()), ("b", deed(GIVE)), ("c", deed())),
            kind(("a", deed()), ("aa", deed()), ("ab", deed()), ("b", deed())),
        ):
            self.check_kind(thing, True)

    def test_aboves(self):
        for above in (
            False, True, 0, "", "main", "main:box", (), ("main",), ("main", "box", "box"), ["main", "box"],
            ("main", None), (None, "box"),
            ("Main", "box"), ("main", "Box"), ("", "a"), ("a", ""), ("abcdefghi", "a"), ("a", "abcdefghi"),
            ("kind", "a", "b"), {},
            (True, "a"), (("a",), "b"), (["a"], "b"),
        ):
            self.check_kind((above, ()), False)

    def test_what_is_none(self):
        for thing in (
            None, True, 0, "", (), (None,), ((), None), (None, (), ()), [None, ()], (None, []), (None, None),
            (None, {}), (None, "go"),
            (None, deed()), (None, ("go", deed())), (None, (deed(),)), (None, (["go", deed()],)), (None, (("go",),)),
            {}, ((), ()),
            (None, (("go", deed(), ()),)), (None, (("go", None),)), (None, (("go", kind()),)),
            (None, (("Go", deed()),)), (None, (None,)),
        ):
            self.check_kind(thing, False)


class Modules(Told):
    def test_of_anything(self):
        for thing in anything():
            self.check(is_program, thing, False)
            self.check(is_program, (module(), thing), False)
            for k in range(4):
                whole = module()
                self.check(is_program, (whole[:k] + (thing,) + whole[k + 1:],), whole[k] == thing)

    def test_a_part_less_or_more(self):
        for thing in shortened_and_lengthened(module(("do", A), deeds=(("go", deed()),), kinds=(("box", kind()),))):
            self.check(is_program, (thing,), False)

    def test_names_of_modules(self):
        for name in NO_NAMES:
            self.check(is_program, (module(name=name),), False)
            self.check(is_program, (module(), module(name=name)), False)

    def test_names_of_deeds_and_kinds(self):
        for name in NO_NAMES:
            self.check(is_program, (module(deeds=((name, deed()),)),), False)
            self.check(is_program, (module(deeds=(("a", deed()), (name, deed()))),), False)
            self.check(is_program, (module(kinds=((name, kind()),)),), False)
            self.check(is_program, (module(kinds=(("a", kind()), (name, kind()))),), False)
            self.check(is_program, (module(kinds=(("box", kind((name, deed()))),)),), False)

    def test_deeds_and_kinds_rise(self):
        for names in (("a",), ("a", "b"), ("a", "aa", "ab", "b"), ("main", "mainly"), ("a", "b", "c")):
            self.check_named(names, True)
            if len(names) > 1:
                self.check_named(names[::-1], False)
        for names in (("a", "a"), ("a", "b", "b"), ("a", "c", "b"), ("b", "a", "c"), ("aa", "a"), ("a", "b", "a")):
            self.check_named(names, False)

    def check_named(self, names, told):
        deeds = tuple((name, deed()) for name in names)
        self.check(is_program, (module(deeds=deeds),), told)
        self.check(is_program, (module(kinds=tuple((name, kind()) for name in names)),), told)
        self.check(is_program, (module(kinds=(("box", kind(*deeds)),)),), told)

    def test_what_is_the_same_twice_is_so_though_unlike(self):
        deeds = (("a", deed()), ("a", deed(("do", ONE))))
        kinds = (("a", kind()), ("a", kind(("b", deed()))))
        self.check(is_program, (module(deeds=deeds),), False)
        self.check(is_program, (module(kinds=kinds),), False)
        self.check(is_program, (module(kinds=(("box", kind(*deeds)),)),), False)
        self.check(is_program, (module(), module(("do", ONE))), False)

    def test_kinds_are_called_unlike_deeds(self):
        self.check(is_program, (module(deeds=(("a", deed()),), kinds=(("b", kind()),)),), True)
        self.check(is_program, (module(deeds=(("b", deed()),), kinds=(("a", kind()),)),), True)
        self.check(is_program, (module(deeds=(("a", deed()),), kinds=(("a", kind()),)),), False)
        deeds, kinds = (("a", deed()), ("b", deed())), (("b", kind()), ("c", kind()))
        self.check(is_program, (module(deeds=deeds, kinds=kinds),), False)
        # Those of another module, and a kind's own deeds, may be called so.
        self.check(is_program, (module(deeds=(("a", deed()),)), module(kinds=(("a", kind()),), name="other")), True)
        self.check(is_program, (module(deeds=deeds[:1], kinds=(("b", kind(*deeds)),)),), True)


class Kept(Told):
    """Names that a module's text keeps are none of its deeds' and kinds'."""

    def check_kept(self, told, **parts):
        """Parts of a module named go, in which the names go and box are kept or not."""
        rows = parts.pop("rows", ())
        deeds = parts.pop("deeds", ())
        kinds = parts.pop("kinds", ())
        for n in ("go", "box"):
            whole = module(
                *self.of(n, rows),
                deeds=(("go", deed(*self.of(n, deeds))),),
                kinds=(("box", kind(("make", deed(*self.of(n, kinds))))),),
            )
            self.check(is_program, (whole,), told)
            # Where none is called so, all may be kept.
            self.check(is_program, (self.of_others(whole),), True)
            # A deed or a kind so called in another module bars nothing here.
            other = module(deeds=(("go", deed()),), kinds=(("box", kind()),), name="other")
            self.check(is_program, (self.of_others(whole), other), True)

    def of(self, n, row):
        return tuple(n if part == "?" else self.of(n, part) if isinstance(part, tuple) else part for part in row)

    def of_others(self, whole):
        name, deeds, kinds, rows = whole
        return (name, (("goa", deeds[0][1]),), (("boxa", kinds[0][1]),), rows)

    def check_everywhere(self, row, in_rows, in_deeds):
        """A row with ? for a name keeps it or not in a module's own rows, and in deeds."""
        for body in self.bodies(row):
            self.check_kept(not in_rows, rows=(body,))
            self.check_kept(not in_deeds, rows=(("do", within(body)),))
            self.check_kept(not in_deeds, rows=(("let", "x", within(("do", within(body)))),))
            self.check_kept(not in_deeds, deeds=(body,))
            self.check_kept(not in_deeds, deeds=(("do", within(body)),))
            self.check_kept(not in_deeds, kinds=(body,))
            self.check_kept(not in_deeds, kinds=(("do", ("row", (within(body),))),))

    def bodies(self, row):
        yield row
        yield ("if", A, (row,), ())
        yield ("if", A, (), (row,))
        yield ("while", A, (row,))
        yield ("each", "x", A, (("do", A), row))
        yield ("try", (row,), None, ())
        yield ("try", (), ("x", (row,)), ())
        yield ("try", (), None, (row,))

    def test_keep_anywhere(self):
        self.check_everywhere(("keep", "?", ONE), True, True)

    def test_let_each_caught_in_its_own_rows(self):
        self.check_everywhere(("let", "?", ONE), True, False)
        self.check_everywhere(("each", "?", A, ()), True, False)
        self.check_everywhere(("try", (), ("?", ()), ()), True, False)

    def test_gives_and_takes_keep_nothing(self):
        give = ("give", "?", ONE)
        self.check_kept(True, deeds=(give,), kinds=(give,), rows=(("do", within(give)),))
        self.check_kept(True, deeds=(("do", within(takes=("?",))),), rows=(("do", within(takes=("?",))),))
        self.check(is_program, (module(deeds=(("go", deed(takes=("go", "box"))),), kinds=(("box", kind()),)),), True)

    def test_other_names_keep_nothing(self):
        for row in (
            ("put", A, "?", ONE), ("out", A, "?"), ("do", ("name", "?")), ("do", ("far", "?", "?")),
            ("do", ("field", A, "?")),
            ("do", ("send", A, "?", ())), ("do", ("ask", "?")), ("say", ("worth", "?")),
        ):
            self.check_everywhere(row, False, False)

    def test_a_kinds_own_deeds_may_be_called_so(self):
        box = kind(("make", deed(("keep", "make", ONE))))
        self.check(is_program, (module(("let", "make", ONE), kinds=(("box", box),)),), True)

    def test_the_modules_own_name_may_be_kept(self):
        self.check(is_program, (module(("let", "main", ONE), deeds=(("go", deed(("keep", "main", ONE))),)),), True)

    def test_each_one_that_is_kept_is_looked_at(self):
        deeds = (("a", deed()), ("b", deed()), ("c", deed()))
        for n in "abc":
            self.check(is_program, (module(("let", "x", ONE), ("let", n, ONE), deeds=deeds),), False)
            self.check(is_program, (module(("let", n, ONE), ("let", "x", ONE), deeds=deeds),), False)
        self.check(is_program, (module(("let", "x", ONE), ("let", "d", ONE), deeds=deeds),), True)


class Programs(Told):
    def test_some(self):
        for thing in (
            FULL, (module(),), (module(name="a"), module()), (module(), module(name="z")),
            (module(name="lain"), module(), module(name="maina")), (module(*ROWS),),
        ):
            self.check(is_program, thing, True)

    def test_no_main(self):
        for names in ((), ("a",), ("maina",), ("mai",), ("a", "b"), ("a", "z")):
            self.check(is_program, tuple(module(name=name) for name in names), False)

    def test_modules_rise_unlike(self):
        for names in (
            ("main", "main"), ("main", "a"), ("z", "main"), ("a", "a", "main"), ("main", "z", "z"), ("b", "a", "main"),
            ("main", "z", "y"),
            ("a", "main", "b"),
        ):
            self.check(is_program, tuple(module(name=name) for name in names), False)

    def test_lists_are_no_tuples(self):
        for thing in as_lists(FULL):
            self.check(is_program, thing, False)

    def test_each_module_is_looked_at(self):
        wrong = (("do", ("worth", ("thing", 0))),)
        self.check(is_program, (module(*wrong),), False)
        self.check(is_program, (module(*wrong, name="a"), module(), module(name="z")), False)
        self.check(is_program, (module(name="a"), module(), module(*wrong, name="z")), False)

    def test_what_is_no_part_of_a_program(self):
        # Put in the place of anything, these make a program of none.
        for thing in put_otherwise(FULL, ([], {})):
            self.assertIs(is_program(thing), False)
            self.assertIs(is_deed(thing), False)

    def test_truths_are_no_numbers_nor_names(self):
        whole = module(("do", ("far", "a", "b")), deeds=(("go", deed(("tell", A), takes=("a",))),))
        self.check(is_program, (whole,), True)
        for thing in put_otherwise(whole, (True, 1)):
            self.assertIs(is_program((thing,)), False)

    def test_bounds_are_not_asked_here(self):
        names = [first + second for first in "abcdm" for second in "abcdefghi"]
        self.check(is_program, tuple(module(name=name) for name in sorted([*names, "main"])), True)
        self.check(is_program, (module(deeds=tuple((name, deed()) for name in names)),), True)
        self.check(is_program, (module(kinds=tuple((name, kind()) for name in names)),), True)
        self.check(is_program, (module(*(("do", ONE),) * 1000),), True)

    def test_what_is_handed_in_is_not_changed(self):
        for thing in (FULL, [FULL], [module(), ["main", [], {}, ()]], {"main": [module()]}, (module(), [("a", [])])):
            before = copy.deepcopy(thing)
            for asked in (is_deed, is_program):
                self.assertIs(asked(thing), asked(thing))
                self.assertEqual(thing, before)


if __name__ == "__main__":
    unittest.main()
