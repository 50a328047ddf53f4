import copy
import unittest

from everso.leading import led_deed, led_rows
from samples import A, DEED_ROWS, EXPRESSIONS, ONE, ROWS, deed, within

LED_ONE = ("worth", 1)


def own(n):
    return ("own", n)


def around(k, n):
    return ("around", k, n)


def cell(n, module="main"):
    return ("cell", module, n)


def name(n):
    return ("name", n)


def say(n):
    return ("say", ("name", n))


class Led(unittest.TestCase):
    def check_deed(self, given, told, module="main"):
        """What is told is looked at by its repr, too, which tells True and 1 apart."""
        with self.subTest(deed=repr(given)[:160]):
            before = copy.deepcopy(given)
            self.assertEqual(led_deed(module, given), told)
            self.assertEqual(repr(led_deed(module=module, deed=given)), repr(told))
            self.assertEqual(repr(given), repr(before))

    def check_rows(self, given, told, module="main"):
        with self.subTest(rows=repr(given)[:160]):
            before = copy.deepcopy(given)
            self.assertEqual(led_rows(module, given), told)
            self.assertEqual(repr(led_rows(module=module, rows=given)), repr(told))
            self.assertEqual(repr(given), repr(before))


class OwnNames(Led):
    def test_takes(self):
        self.check_deed((("a", "b"), (say("a"), say("b"), say("c"))), (
            ("a", "b"), (("say", own("a")), ("say", own("b")), ("say", cell("c"))),
        ))

    def test_takes_stay_as_they_are(self):
        for takes in ((), ("a",), ("b", "a"), ("a", "b", "c", "d")):
            self.check_deed((takes, ()), (takes, ()))

    def test_lets_eaches_gives_caughts(self):
        for row, led in (
            (("let", "x", ONE), ("let", own("x"), LED_ONE)),
            (("each", "x", ONE, ()), ("each", own("x"), LED_ONE, ())),
            (("give", "x", ONE), ("give", own("x"), LED_ONE)),
            (("try", (), ("x", ()), ()), ("try", (), (own("x"), ()), ())),
        ):
            self.check_deed(deed(row), ((), (led,)))
            # Whether ahead or behind, a name is own all over the deed.
            self.check_deed(deed(say("x"), row, say("x"), say("y")), (
                (), (("say", own("x")), led, ("say", own("x")), ("say", cell("y"))),
            ))
            self.check_bodies(row, led)
            self.check_within(row)

    def check_bodies(self, row, led):
        """A name is own wherever its row stands."""
        said, told = say("x"), ("say", own("x"))
        for body, led_body in (
            (("if", ONE, (row,), ()), ("if", LED_ONE, (led,), ())),
            (("if", ONE, (), (row, said)), ("if", LED_ONE, (), (led, told))),
            (("while", ONE, (said, row)), ("while", LED_ONE, (told, led))),
            (("try", (row,), None, ()), ("try", (led,), None, ())),
            (("try", (), None, (row,)), ("try", (), None, (led,))),
            (("while", ONE, (("if", ONE, (), (("try", (), None, (row,)),)),)), (
                "while", LED_ONE, (("if", LED_ONE, (), (("try", (), None, (led,)),)),),
            )),
        ):
            self.check_deed(deed(said, body), ((), (told, led_body)))
        for n in ("x", "y"):
            self.check_deed(deed(said, ("each", n, ONE, (row,))), ((), (told, ("each", own(n), LED_ONE, (led,)))))
            self.check_deed(deed(said, ("try", (), (n, (row,)), ())), (
                (), (told, ("try", (), (own(n), (led,)), ())),
            ))

    def check_within(self, row):
        """A name is not own for being so in a deed within."""
        rows = led_deed("main", deed(say("x"), ("do", within(row, say("x")))))[1]
        self.assertEqual(rows[0], ("say", cell("x")))
        self.assertEqual(rows[1][1][2][1], ("say", own("x")))

    def test_what_else_bears_a_name_makes_none_own(self):
        for row, led in (
            (("keep", "x", name("x")), ("let", cell("x"), cell("x"))),
            (("put", name("x"), "x", name("x")), ("put", cell("x"), "x", cell("x"))),
            (("out", name("x"), "x"), ("out", cell("x"), "x")),
            (("do", ("ask", "x")), ("do", ("ask", "x"))),
            (("do", ("far", "x", "x")), ("do", ("far", "x", "x"))),
            (("do", ("send", name("x"), "x", (name("x"),))), ("do", ("send", cell("x"), "x", (cell("x"),)))),
            (("say", ("worth", "x")), ("say", ("worth", "x"))),
            (("do", within(takes=("x",))), ("do", ("deed", ("x",), ()))),
        ):
            self.check_deed(deed(row, say("x")), ((), (led, ("say", cell("x")))))


class Keeps(Led):
    def test_it_is_a_let_of_the_modules(self):
        self.check_deed(deed(("keep", "a", ONE)), ((), (("let", cell("a"), LED_ONE),)))
        led = ("let", cell("a", "other"), cell("b", "other"))
        self.check_deed(deed(("keep", "a", name("b"))), ((), (led,)), "other")

    def test_beside_an_own_name(self):
        self.check_deed((("a",), (("keep", "a", name("a")), say("a"))), (
            ("a",), (("let", cell("a"), own("a")), ("say", own("a"))),
        ))
        self.check_deed(deed(("let", "a", ONE), ("keep", "a", ONE), say("a")), (
            (), (("let", own("a"), LED_ONE), ("let", cell("a"), LED_ONE), ("say", own("a"))),
        ))

    def test_in_a_deed_within(self):
        self.check_deed((("a",), (("do", within(("keep", "a", name("a")), takes=("b",))),)), (
            ("a",), (("do", ("deed", ("b",), (("let", cell("a"), around(1, "a")),))),),
        ))

    def test_in_bodies(self):
        keep, led = ("keep", "a", ONE), ("let", cell("a"), LED_ONE)
        self.check_deed(deed(("if", ONE, (keep,), (keep,)), ("while", ONE, (keep,)), ("each", "a", ONE, (keep,))), (
            (), (("if", LED_ONE, (led,), (led,)), ("while", LED_ONE, (led,)), ("each", own("a"), LED_ONE, (led,))),
        ))
        self.check_deed(deed(("try", (keep,), ("a", (keep,)), (keep,))), (
            (), (("try", (led,), (own("a"), (led,)), (led,)),),
        ))


class Around(Led):
    def test_of_the_deeds_outwards(self):
        inmost = within(say("a"), say("b"), say("c"), say("d"), say("e"), takes=("d",))
        third = within(("tell", inmost), takes=("c",))
        second = within(("tell", third), takes=("b",))
        led_inmost = ("deed", ("d",), (
            ("say", around(3, "a")), ("say", around(2, "b")), ("say", around(1, "c")), ("say", own("d")),
            ("say", cell("e")),
        ))
        led_third = ("deed", ("c",), (("tell", led_inmost),))
        led_second = ("deed", ("b",), (("tell", led_third),))
        self.check_deed((("a",), (("tell", second),)), (("a",), (("tell", led_second),)))

    def test_the_nearest_one_of_those_called_alike(self):
        inner = within(say("a"))
        led = ("say", around(1, "a"))
        self.check_deed((("a",), (("do", within(("do", inner), takes=("a",))),)), (
            ("a",), (("do", ("deed", ("a",), (("do", ("deed", (), (led,))),))),),
        ))
        self.check_deed((("a",), (("do", within(("do", inner))),)), (
            ("a",), (("do", ("deed", (), (("do", ("deed", (), (("say", around(2, "a")),))),))),),
        ))
        self.check_deed((("a",), (("do", within(say("a"), takes=("a",))), say("a"))), (
            ("a",), (("do", ("deed", ("a",), (("say", own("a")),))), ("say", own("a"))),
        ))

    def test_own_by_each_kind_of_row_around(self):
        for row in (("let", "x", ONE), ("each", "x", ONE, ()), ("give", "x", ONE), ("try", (), ("x", ()), ())):
            do = ("do", within(say("x")))
            for rows in ((do, row), (row, do), (do, ("if", ONE, (row,), ()))):
                told = led_deed("main", deed(*rows))[1]
                self.assertIn(("do", ("deed", (), (("say", around(1, "x")),))), told)

    def test_a_let_within_is_of_the_deed_within(self):
        self.check_deed((("a",), (("do", within(("let", "a", name("a")))),)), (
            ("a",), (("do", ("deed", (), (("let", own("a"), own("a")),))),),
        ))

    def test_deeds_side_by_side_share_no_names(self):
        self.check_deed(deed(("do", within(("let", "a", ONE))), ("do", within(say("a")))), (
            (), (("do", ("deed", (), (("let", own("a"), LED_ONE),))), ("do", ("deed", (), (("say", cell("a")),)))),
        ))

    def test_deeds_within_wherever_they_stand(self):
        inner, led = within(say("a")), ("deed", (), (("say", around(1, "a")),))
        for expression, told in (
            (("row", (ONE, inner)), ("row", (LED_ONE, led))),
            (("word", "same", (inner, inner)), ("word", "same", (led, led))),
            (("field", inner, "a"), ("field", led, "a")),
            (("has", inner, "a"), ("has", led, "a")),
            (("fields", inner), ("fields", led)),
            (("new", inner, (inner,)), ("new", led, (led,))),
            (("call", inner, (inner,)), ("call", led, (led,))),
            (("send", inner, "a", (inner,)), ("send", led, "a", (led,))),
            (("wake", inner, inner), ("wake", led, led)),
        ):
            self.check_deed((("a",), (("do", expression),)), (("a",), (("do", told),)))


class Wherever(Led):
    def test_each_row(self):
        x, y = name("x"), name("y")
        own_x, cell_y = own("x"), cell("y")
        for row, led in (
            (("let", "z", x), ("let", own("z"), own_x)), (("keep", "z", x), ("let", cell("z"), own_x)),
            (("put", x, "x", y), ("put", own_x, "x", cell_y)), (("out", x, "x"), ("out", own_x, "x")),
            (("say", x), ("say", own_x)),
            (("do", y), ("do", cell_y)), (("tell", x), ("tell", own_x)), (("raise", x), ("raise", own_x)),
            (("give", "z", x), ("give", own("z"), own_x)),
            (("if", x, (("say", x),), (("say", y),)), ("if", own_x, (("say", own_x),), (("say", cell_y),))),
            (("while", x, (("say", y), ("leave",))), ("while", own_x, (("say", cell_y), ("leave",)))),
            (("each", "z", x, (("say", x),)), ("each", own("z"), own_x, (("say", own_x),))),
            (("try", (("say", x),), ("z", (("say", y),)), (("say", x),)), (
                "try", (("say", own_x),), (own("z"), (("say", cell_y),)), (("say", own_x),),
            )),
            (("try", (("say", x),), None, (("say", y),)), ("try", (("say", own_x),), None, (("say", cell_y),))),
        ):
            self.check_deed((("x",), (row,)), (("x",), (led,)))

    def test_each_expression(self):
        x, y = name("x"), name("y")
        own_x, cell_y = own("x"), cell("y")
        for expression, led in (
            (x, own_x), (y, cell_y), (ONE, LED_ONE), (("worth", True), ("worth", True)),
            (("worth", "x"), ("worth", "x")),
            (("worth", ("row", ("name", "x"))), ("worth", ("row", ("name", "x")))),
            (("far", "main", "x"), ("far", "main", "x")),
            (("row", ()), ("row", ())), (("row", (x, y)), ("row", (own_x, cell_y))),
            (("word", "plus", (x, y)), ("word", "plus", (own_x, cell_y))),
            (("word", "not", (x,)), ("word", "not", (own_x,))), (("field", x, "x"), ("field", own_x, "x")),
            (("has", y, "x"), ("has", cell_y, "x")),
            (("fields", x), ("fields", own_x)), (("new", y, ()), ("new", cell_y, ())),
            (("new", y, (x, x)), ("new", cell_y, (own_x, own_x))),
            (("call", x, (y,)), ("call", own_x, (cell_y,))),
            (("send", x, "x", (y, x)), ("send", own_x, "x", (cell_y, own_x))),
            (("ask", "x"), ("ask", "x")), (("wake", x, y), ("wake", own_x, cell_y)),
            (("call", ("call", ("call", x, ()), (y,)), (x,)), (
                "call", ("call", ("call", own_x, ()), (cell_y,)), (own_x,),
            )),
        ):
            self.check_deed((("x",), (("do", expression),)), (("x",), (("do", led),)))

    def test_the_module_is_that_in_which_it_stands(self):
        for module in ("main", "a", "abcdefgh"):
            given = (("a",), (say("a"), say("b"), ("do", within(say("b"), ("keep", "a", ONE)))))
            told = (("a",), (
                ("say", own("a")), ("say", cell("b", module)),
                ("do", ("deed", (), (("say", cell("b", module)), ("let", cell("a", module), LED_ONE)))),
            ))
            self.check_deed(given, told, module)
            self.check_rows((say("a"), ("let", "b", ONE)), (
                ("say", cell("a", module)), ("let", cell("b", module), LED_ONE),
            ), module)

    def test_no_name_is_left(self):
        rows = (*ROWS, *(("do", expression) for expression in EXPRESSIONS))
        for told in (led_deed("main", deed(*rows, *DEED_ROWS)), led_rows("main", rows)):
            self.check_led(told)

    def check_led(self, told):
        self.assertNotIn(told[:1], (("name",), ("keep",)))
        if told[:1] != ("worth",):
            for part in told:
                if isinstance(part, tuple):
                    self.check_led(part)
                else:
                    self.assertTrue(part is None or isinstance(part, (str, int)), part)


class Rows(Led):
    def test_each_of_its_names_is_the_modules(self):
        led = ("say", cell("x"))
        for row, told in (
            (say("x"), led), (("let", "x", name("x")), ("let", cell("x"), cell("x"))),
            (("keep", "x", name("x")), ("let", cell("x"), cell("x"))),
            (("each", "x", name("x"), (say("x"),)), ("each", cell("x"), cell("x"), (led,))),
            (("try", (say("x"),), ("x", (say("x"),)), (say("x"),)), ("try", (led,), (cell("x"), (led,)), (led,))),
            (("if", name("x"), (say("x"),), (say("x"),)), ("if", cell("x"), (led,), (led,))),
            (("while", name("x"), (say("x"), ("leave",))), ("while", cell("x"), (led, ("leave",)))),
            (("put", A, "x", name("x")), ("put", cell("a"), "x", cell("x"))),
            (("out", name("x"), "x"), ("out", cell("x"), "x")),
            (("do", ("far", "other", "x")), ("do", ("far", "other", "x"))),
            (("do", ("ask", "x")), ("do", ("ask", "x"))),
        ):
            self.check_rows((row,), (told,))
            self.check_rows((("if", ONE, (), (row, row)), row), (("if", LED_ONE, (), (told, told)), told))

    def test_rows_of_none(self):
        self.check_rows((), ())

    def test_deeds_within(self):
        self.check_rows(
            (("let", "x", within(
                say("x"), say("y"), ("let", "y", ONE), ("do", within(say("x"), say("y"), say("z"), takes=("z",))),
            )),),
            (("let", cell("x"), ("deed", (), (
                ("say", cell("x")), ("say", own("y")), ("let", own("y"), LED_ONE),
                ("do", ("deed", ("z",), (("say", cell("x")), ("say", around(1, "y")), ("say", own("z"))))),
            ))),),
        )

    def test_a_modules_let_is_around_no_deed(self):
        self.check_rows((("let", "x", ONE), ("each", "y", ONE, (("do", within(say("x"), say("y"))),))), (
            ("let", cell("x"), LED_ONE),
            ("each", cell("y"), LED_ONE, (("do", ("deed", (), (("say", cell("x")), ("say", cell("y"))))),)),
        ))


if __name__ == "__main__":
    unittest.main()
