import copy
import unittest

from everso.errors import NoText
from everso.programs import is_program
from everso.programtexts import read_program, show_program
from samples import A, EXPRESSIONS, FULL, ONE, ROWS, anything, deed, kind, module, put_otherwise, within

# Expressions and rows with their texts.
EXPRESSION_TEXTS = (
    (("worth", 1), "(= 1)"), (("worth", True), "(= yes)"), (("worth", False), "(= no)"), (("worth", None), "(= none)"),
    (("worth", -20), "(= -20)"), (("worth", 0), "(= 0)"), (("worth", ""), "(= '')"), (("worth", "a b"), "(= 'a b')"),
    (("worth", " ( "), "(= ' ( ')"), (("worth", "))"), "(= '))')"), (("worth", "[ ]"), "(= '[ ]')"),
    (("worth", ("row", ())), "(= [])"),
    (("worth", ("row", (1, True, ") (", ("row", ("",))))), "(= [1 yes ') (' ['']])"),
    (("name", "a"), "a"), (("name", "abcdefgh"), "abcdefgh"), (("name", "none"), "none"), (("name", "plus"), "plus"),
    (("far", "m", "n"), "(far m n)"),
    (("row", ()), "(row ())"), (("row", (A, ("name", "b"))), "(row (a b))"),
    (("row", (("row", ()),)), "(row ((row ())))"),
    (("word", "plus", (A, ONE)), "(plus a (= 1))"), (("word", "minus", (ONE, A)), "(minus (= 1) a)"),
    (("word", "times", (A, A)), "(times a a)"), (("word", "over", (A, A)), "(over a a)"),
    (("word", "rest", (A, A)), "(rest a a)"), (("word", "less", (A, A)), "(less a a)"),
    (("word", "same", (A, A)), "(same a a)"), (("word", "join", (A, A)), "(join a a)"),
    (("word", "at", (A, ONE)), "(at a (= 1))"), (("word", "not", (A,)), "(not a)"),
    (("word", "size", (A,)), "(size a)"),
    (("word", "sort", (("word", "not", (A,)),)), "(sort (not a))"),
    (("field", A, "b"), "(field a b)"), (("has", A, "b"), "(has a b)"), (("fields", A), "(fields a)"),
    (("new", A, ()), "(new a ())"), (("new", A, (ONE, A)), "(new a ((= 1) a))"),
    (("call", ("name", "f"), (ONE, A)), "(call f ((= 1) a))"), (("call", A, ()), "(call a ())"),
    (("call", ("call", A, ()), (("call", A, ()),)), "(call (call a ()) ((call a ())))"),
    (("send", A, "b", ()), "(send a b ())"), (("send", A, "b", (A, ONE)), "(send a b (a (= 1)))"),
    (("deed", ("a",), (("tell", A),)), "(deed (a) ((tell a)))"), (("deed", (), ()), "(deed () ())"),
    (("deed", ("b", "a"), (("do", A), ("do", ONE))), "(deed (b a) ((do a) (do (= 1))))"),
    (("ask", "w"), "(ask w)"), (("wake", A, ONE), "(wake a (= 1))"),
)

ROW_TEXTS = (
    (("let", "x", ONE), "(let x (= 1))"), (("keep", "x", A), "(keep x a)"), (("put", A, "x", ONE), "(put a x (= 1))"),
    (("out", A, "x"), "(out a x)"), (("say", A), "(say a)"), (("do", A), "(do a)"), (("raise", ONE), "(raise (= 1))"),
    (("if", A, (), ()), "(if a () ())"),
    (("if", A, (("say", A),), (("do", A), ("do", A))), "(if a ((say a)) ((do a) (do a)))"),
    (("while", A, ()), "(while a ())"), (("while", A, (("say", A), ("leave",))), "(while a ((say a) (leave)))"),
    (("each", "x", A, ()), "(each x a ())"), (("each", "x", A, (("leave",),)), "(each x a ((leave)))"),
    (("try", (), None, ()), "(try () - ())"),
    (("try", (("say", A),), None, (("do", A),)), "(try ((say a)) - ((do a)))"),
    (("try", (), ("x", ()), ()), "(try () (x ()) ())"),
    (("try", (("say", A),), ("x", (("do", A), ("do", A))), ()), "(try ((say a)) (x ((do a) (do a))) ())"),
)
DEED_ROW_TEXTS = ((("tell", A), "(tell a)"), (("give", "x", ONE), "(give x (= 1))"))

# Modules by themselves with their lines.
LINES = (
    (module(), "(module main () () ())"),
    (module(name="abcdefgh"), "(module abcdefgh () () ())"),
    (module(("say", A)), "(module main () () ((say a)))"),
    (module(("say", A), ("do", ONE)), "(module main () () ((say a) (do (= 1))))"),
    (module(deeds=(("go", deed()),)), "(module main ((go () ())) () ())"),
    (module(deeds=(("go", deed(("tell", A), takes=("a", "b"))), ("to", deed()))),
     "(module main ((go (a b) ((tell a))) (to () ())) () ())"),
    (module(kinds=(("box", kind()),)), "(module main () ((box - ())) ())"),
    (module(kinds=(("box", kind(above=("main", "crate"))),)), "(module main () ((box main:crate ())) ())"),
    (module(kinds=(
        ("box", kind(("make", deed(("do", A), takes=("self",))), ("name", deed()), above=("a", "b"))), ("tin", kind()),
    )),
     "(module main () ((box a:b ((make (self) ((do a))) (name () ()))) (tin - ())) ())"),
    (module(("let", "x", ONE), name="other", deeds=(("a", deed()),), kinds=(("b", kind()),)),
     "(module other ((a () ())) ((b - ())) ((let x (= 1))))"),
    (module(name="module", deeds=(("module", deed()),)), "(module module ((module () ())) () ())"),
)

MAIN = "(module main () () ())"
FIRST = "(module a () () ())"
LAST = "(module z () () ())"

# Lines that write no module by itself.
NO_LINES = (
    "", " ", "module", "main", "-", "()", "(module)", "(module main)", "(module main ())", "(module main () ())",
    "(module main () () () ())", "(module () () ())", "(module () () () ())", "(modul main () () ())",
    "(Module main () () ())",
    "module main () () ()", "((module main () () ()))", "(module main () () ()) ", " (module main () () ())",
    "(module main () () ())(module z () () ())", "(module main () () ()) ()", "(module main () () ()) a",
    "a (module main () () ())",
    "( module main () () ())", "(module  main () () ())", "(module main  () () ())", "(module main () () () )",
    "(module main ( ) () ())", "(module main ()() ())", "(modulemain () () ())", "(module main() () ())",
    "(module\tmain () () ())",
    "(module main () () ())\r", "\n", "(module main () () ()", "(module main () () ()))", "(module main () ()) ())",
    "(module main () (() ())", "[module main () () ()]", "(module main [] () ())", "(module main () () [])",
    "(module main () () ()]",
    "(module main - () ())", "(module main () - ())", "(module main () () -)", "(module main none () ())",
    "(module Main () () ())", "(module abcdefghi () () ())", "(module m1 () () ())", "(module 'main' () () ())",
    "(module (main) () () ())",
    "(module - () () ())", "(module main:a () () ())", "(= 1)", "none", "[]", "(program)", "((main () () ()))",
    # deeds
    "(module main (go () ()) () ())", "(module main ((go)) () ())", "(module main ((go ())) () ())",
    "(module main ((go () () ())) () ())",
    "(module main ((go a ())) () ())", "(module main ((go () a)) () ())", "(module main ((Go () ())) () ())",
    "(module main ((() ())) () ())",
    "(module main (((go) () ())) () ())", "(module main ((go (A) ())) () ())", "(module main ((go ((a)) ())) () ())",
    "(module main ((go (a a) ())) () ())", "(module main ((go (a b c d e) ())) () ())",
    "(module main ((go - ())) () ())",
    "(module main ((go ( a) ())) () ())", "(module main ((go (a ) ())) () ())", "(module main ((go (a  b) ())) () ())",
    "(module main ((go [a] ())) () ())", "(module main (go) () ())", "(module main ((deed go () ())) () ())",
    "(module main ((go () ())(to () ())) () ())", "(module main ((to () ()) (go () ())) () ())",
    "(module main ((go () ()) (go () ())) () ())", "(module main ((go (- a) ())) () ())",
    "(module main ((go ('a') ())) () ())",
    # kinds
    "(module main () ((box)) ())", "(module main () ((box -)) ())", "(module main () ((box ())) ())",
    "(module main () ((box - () ())) ())",
    "(module main () ((box none ())) ())", "(module main () ((box main.a ())) ())",
    "(module main () ((box main: ())) ())",
    "(module main () ((box :a ())) ())", "(module main () ((box main:a:b ())) ())",
    "(module main () ((box main : a ())) ())",
    "(module main () ((box (main:a) ())) ())", "(module main () ((box (main a) ())) ())",
    "(module main () ((box Main:a ())) ())",
    "(module main () ((box () ())) ())", "(module main () ((box : ())) ())", "(module main () ((box a ())) ())",
    "(module main () ((box - -)) ())", "(module main () (box - ()) ())", "(module main () ((box - (go () ()))) ())",
    "(module main () ((box - ((go () ()) (go () ())))) ())", "(module main () ((tin - ()) (box - ())) ())",
    "(module main () ((box - ()) (box - ())) ())", "(module main ((box () ())) ((box - ())) ())",
    "(module main () ((box 'a' ())) ())",
    # what a module, 6 to 8, bars
    "(module main () () ((leave)))", "(module main () () ((tell a)))", "(module main () () ((give x a)))",
    "(module main () () ((do (worth 1))))", "(module main ((go () ((leave)))) () ())",
    "(module main ((go () ())) () ((let go a)))",
    "(module main () ((box - ((go () ((keep box a)))))) ())", "(module main () () ((do (row (a a a a a a a a a)))))",
    "(module main () () ((do (plus a))))", "(module main () () ((do (plus a a a))))",
    "(module main () () ((do (not))))",
    "(module main () () ((do (not a a))))", "(module main () () ((while a ((do (deed () ((leave))))))))",
)

NO_EXPRESSION_TEXTS = (
    "-", "A", "a1", "abcdefghi", "1", "'a'", "()", "(a)", "(a b)", "[]", "[a]", "(=)", "(= a)", "(= 1 2)", "(=1)",
    "(= (= 1))", "(= 01)",
    "(= -0)", "(= ( 1))", "(= '%s')" % chr(37), "(= 1 )", "( = 1)", "(=  1)", "(= #0)", "(= a.b)", "(= a:b)",
    "(= [#0])", "(= [1  2])",
    "(= [1 2)", "(= 1000000000000001)", "(= %s)" % ("9" * 5000), "(= 'a)", "(= '')')", "(= ')", "(worth 1)",
    "(worth (= 1))", "(worth a)",
    "(worth [])", "(name a)", "(name 'a')", "(word plus (a a))", "(word plus a a)", "(word (plus) (a a))",
    "(plus (a a))", "(plus)",
    "(plus a a a)", "(plus a)", "(plusa a)", "(and a a)", "(not)", "(not (a))", "(row)", "(row a)", "(row a b)",
    "(row (a b) (a))",
    "(row [a b])", "(row ((a b)))", "(row (a  b))", "(row ( a))", "(row (a ))", "(row -)", "(far a)", "(far a b c)",
    "(far a:b)", "(far (a) b)",
    "(far a (= 1))", "(field a)", "(field b (= 1))", "(field a (b))", "(has a)", "(fields)", "(fields a b)", "(new a)",
    "(new a b)",
    "(new a (b) c)", "(call a)", "(call f (= 1) a)", "(call (f) ())", "(send a b)", "(send a (b) ())", "(send a b c)",
    "(send a () b)",
    "(deed)", "(deed ())", "(deed () () ())", "(deed a ())", "(deed () (a))", "(deed () a)", "(deed (a a) ())",
    "(deed (a b c d e) ())",
    "(deed go () ())", "(ask)", "(ask a b)", "(ask (a))", "(ask (= 1))", "(wake a)", "(wake a b c)", "(leave)",
    "(say a)", "(own a)",
    "(cell main a)", "(call a () ())", "(row (a a a a a a a a a))", "(new a (a a a a a a a a a))", "(((a)))",
    "(= none none)", "(== 1)",
    "(= None)", "(do)", "(call\ta ())", "(Row ())", "(= [[[[[[[[[]]]]]]]]])",
)

NO_ROW_TEXTS = (
    "a", "()", "(a)", "leave", "-", "(leave a)", "(leave ())", "(let x)", "(let x a b)", "(let (x) a)", "(let (= 1) a)",
    "(let X a)",
    "(keep x)", "(keep (x) a)", "(put a x)", "(put a (x) a)", "(out a)", "(out x (a))", "(say)", "(say a a)",
    "(say (a))", "(do)", "(do a a)",
    "(raise)", "(if a ())", "(if a)", "(if a () () ())", "(if a - ())", "(if a (a) ())", "(if a (say a) ())",
    "(if a ((say a)))",
    "(while a)", "(while a a)", "(while a (leave))", "(while a () ())", "(while () ())", "(each x a)",
    "(each (x) a ())", "(each x a a)",
    "(each x (a) ())", "(try ())", "(try () -)", "(try () ())", "(try () () ())", "(try () x ())", "(try () (x) ())",
    "(try () (x () ()) ())",
    "(try () ((x) ()) ())", "(try () (- ()) ())", "(try () none ())", "(try - - ())", "(try () - -)",
    "(try () - () ())", "(try () (x (a)) ())",
    "(try () (()) ())", "(try ()  - ())", "(do  a)", "(do a )", "( do a)", "(doa)", "(do(= 1))", "(do a)(do a)",
    "[do a]", "(Do a)", "(row ())",
    "(= 1)", "((do a))", "(word a)", "(own x a)", "((let) x a)", "(let x a", "(let x a))", "(say 'a')", "(say 1)",
)


def rows_within(many):
    worth = ("row", ())
    for _ in range(many - 1):
        worth = ("row", (worth,))
    return worth


def line_with(row):
    return f"(module main () () ({row}))"


def deed_with(row):
    return f"(module main ((go () ({row}))) () ())"


class Told(unittest.TestCase):
    def check_both(self, program, text):
        with self.subTest(text[:160]):
            self.assertIs(is_program(program), True)
            before = repr(program)
            self.assertEqual(show_program(program), text)
            self.assertEqual(show_program(program=program), text)
            # By its repr, which tells True and 1 apart, too.
            self.assertEqual(repr(read_program(text)), before)
            self.assertEqual(repr(read_program(text=text)), before)
            self.assertEqual(repr(program), before)

    def check_refused(self, text, line):
        with self.subTest(repr(text)[:160]):
            for ask in (lambda: read_program(text), lambda: read_program(text=text)):
                with self.assertRaises(NoText) as caught:
                    ask()
                self.assertEqual(repr(caught.exception.line), repr(line))

    def check_let_or_refused(self, text):
        """What is read is a program of just this text, and all else is refused."""
        try:
            program = read_program(text)
        except NoText as refusal:
            self.assertIn(refusal.line, range(-1, text.count("\n") + 1), text)
            return False
        self.assertIs(is_program(program), True, text)
        self.assertEqual(show_program(program), text)
        return True


class Written(Told):
    def test_each_expression(self):
        for expression, text in EXPRESSION_TEXTS:
            self.check_both((module(("do", expression)),), line_with(f"(do {text})"))
            self.check_both((module(("do", ("row", (expression, A)))),), line_with(f"(do (row ({text} a)))"))
            self.check_both((module(("put", A, "b", expression)),), line_with(f"(put a b {text})"))
            same = ("word", "same", (expression, expression))
            self.check_both((module(("do", same)),), line_with(f"(do (same {text} {text}))"))

    def test_each_row(self):
        for row, text in ROW_TEXTS:
            self.check_both((module(row),), line_with(text))
            self.check_both((module(("if", A, (row, row), (row,))),), line_with(f"(if a ({text} {text}) ({text}))"))
            self.check_both((module(("do", within(row))),), line_with(f"(do (deed () ({text})))"))
        for row, text in ROW_TEXTS + DEED_ROW_TEXTS:
            self.check_both((module(deeds=(("go", deed(row)),)),), deed_with(text))

    def test_each_module(self):
        for whole, line in LINES:
            if whole[0] == "main":
                self.check_both((whole,), line)
            else:
                modules = sorted([(whole, line), (module(), MAIN)], key=lambda pair: pair[0][0])
                self.check_both(tuple(one for one, _ in modules), "\n".join(one for _, one in modules))

    def test_a_line_for_each_module(self):
        a, z = module(name="a"), module(name="z")
        self.check_both((module(),), MAIN)
        self.check_both((a, module()), FIRST + "\n" + MAIN)
        self.check_both((a, module(), z), FIRST + "\n" + MAIN + "\n" + LAST)
        self.check_both((module(), z), MAIN + "\n" + LAST)

    def test_a_program_with_all_in_it(self):
        text = show_program(FULL)
        self.check_both(FULL, text)
        self.assertEqual(text.count("\n"), len(FULL) - 1)
        self.assertNotIn("\n\n", text)

    def test_what_the_samples_have_is_told_here(self):
        """Each word of an expression and a row that the samples have, there and back by itself."""
        for expression in EXPRESSIONS:
            program = (module(("do", expression)),)
            self.assertEqual(repr(read_program(show_program(program))), repr(program))
        for row in ROWS:
            program = (module(row),)
            self.assertEqual(repr(read_program(show_program(program))), repr(program))

    def test_as_deep_as_the_bounds_let_it_be(self):
        """Four deeds, six bodies in each, twelve expressions: of no kind more than it may be."""
        expression = ("worth", rows_within(8))
        for _ in range(8):
            expression = ("call", A, (expression,))
        rows = (("say", expression),)
        for deeds in range(4):
            for _ in range(6):
                rows = (("try", (), ("x", rows), ()),)
            if deeds < 3:
                rows = (("do", within(*rows)),)
        program = (module(kinds=(("box", kind(("go", deed(*rows)))),)),)
        self.check_both(program, show_program(program))

    def test_bounds_are_not_asked_here(self):
        names = sorted([first + second for first in "abm" for second in "abcdefghi"] + ["main"])
        deeds = tuple((name, deed()) for name in names)
        many = tuple(module(name=name, deeds=deeds) for name in names)
        self.check_both(many, show_program(many))
        long = (module(*(("do", ONE),) * 500),)
        self.check_both(long, show_program(long))

    def test_other_programs_have_other_texts(self):
        """Whatever is put otherwise, it is told from its text, and is read back."""
        program = (module(("let", "x", ("row", (ONE, A))), ("try", (), ("e", (("say", A),)), ()),
                          deeds=(("go", deed(("tell", A), takes=("p",))),), kinds=(("box", kind(above=("m", "n"))),)),)
        texts = {}
        others = (None, True, 1, "b", "keep", (), ("b",), A, ("worth", True), ("leave",), ("main", "n"))
        for changed in put_otherwise(program, others):
            if is_program(changed):
                text = show_program(changed)
                self.assertEqual(repr(read_program(text)), repr(changed))
                self.assertEqual(texts.setdefault(text, repr(changed)), repr(changed))
        self.assertGreater(len(texts), 30)

    def test_what_is_told_is_the_same_each_time(self):
        for _ in range(2):
            self.assertEqual(show_program(FULL), show_program(copy.deepcopy(FULL)))


class Refused(Told):
    def test_lines_that_write_no_module(self):
        for line in NO_LINES:
            self.check_refused(line, 0)
            self.check_refused(FIRST + "\n" + line, 1)
            self.check_refused(FIRST + "\n" + MAIN + "\n" + line, 2)
            self.check_refused(line + "\n" + MAIN, 0)

    def test_expressions(self):
        for text in NO_EXPRESSION_TEXTS:
            self.check_refused(line_with(f"(do {text})"), 0)
            self.check_refused(line_with(f"(do (row (a {text})))"), 0)
            self.check_refused(FIRST + "\n" + deed_with(f"(tell {text})"), 1)

    def test_rows(self):
        for text in NO_ROW_TEXTS:
            self.check_refused(line_with(text), 0)
            self.check_refused(line_with(f"(do a) {text}"), 0)
            self.check_refused(FIRST + "\n" + deed_with(f"(if a ({text}) ())"), 1)

    def test_no_text(self):
        for thing in anything() + (FULL, (MAIN,), [MAIN], {MAIN: MAIN}, b"(module main () () ())", 1.5):
            self.check_refused(thing, 0 if isinstance(thing, str) else -1)

    def test_no_signs(self):
        self.check_refused("", 0)

    def test_no_main(self):
        self.check_refused(FIRST, -1)
        self.check_refused(LAST, -1)
        self.check_refused(FIRST + "\n" + LAST, -1)

    def test_modules_that_do_not_rise(self):
        self.check_refused(LAST + "\n" + MAIN, -1)
        self.check_refused(MAIN + "\n" + FIRST, -1)
        self.check_refused(FIRST + "\n" + LAST + "\n" + MAIN, -1)
        self.check_refused("\n".join([MAIN, "(module mai () () ())"]), -1)

    def test_one_twice(self):
        self.check_refused(MAIN + "\n" + MAIN, -1)
        self.check_refused(FIRST + "\n" + FIRST + "\n" + MAIN, -1)
        self.check_refused(MAIN + "\n" + line_with("(do a)"), -1)

    def test_line_ends(self):
        self.check_refused(MAIN + "\n", 1)
        self.check_refused("\n" + MAIN, 0)
        self.check_refused(FIRST + "\n\n" + MAIN, 1)
        self.check_refused(FIRST + "\n" + MAIN + "\n", 2)
        self.check_refused(FIRST + "\n" + MAIN + "\n\n", 2)
        self.check_refused("\n" * 8000, 0)
        self.check_refused("(module main () ()\n())", 0)
        self.check_refused(FIRST + "\n" + line_with("(say (= 'a\nb'))"), 1)
        self.check_refused(FIRST + "\r" + MAIN, 0)
        self.check_refused(FIRST + "\r\n" + MAIN, 0)

    def test_the_first_line_that_writes_none(self):
        wrong = line_with("(leave)")
        self.check_refused("\n".join([FIRST, wrong, "", LAST]), 1)
        self.check_refused("\n".join(["", wrong]), 0)
        self.check_refused("\n".join([FIRST, MAIN, wrong, wrong]), 2)
        # It goes ahead of what is wrong with the whole.
        self.check_refused("\n".join([LAST, FIRST, FIRST, wrong]), 3)
        self.check_refused("\n".join([FIRST, FIRST, wrong, ""]), 2)
        self.check_refused("\n".join([FIRST] * 100 + [wrong]), 100)
        self.check_refused("\n".join([FIRST] * 100), -1)

    def test_what_stays_open(self):
        for text in (
            "(", "((", "(" * 40, "(module main () () ((say (= '", "(module main () () ((say (= ['a' ", "'", ")", "(]",
            "[)", "'('",
        ):
            self.check_refused(text, 0)
            self.check_refused(MAIN + "\n" + text, 1)

    def test_what_is_handed_in_is_not_changed(self):
        thing = [MAIN, {"a": [FIRST]}]
        self.check_refused(thing, -1)
        self.assertEqual(thing, [MAIN, {"a": [FIRST]}])


class PutOtherwise(Told):
    def test_by_one_sign(self):
        text = show_program((
            module(name="a"),
            module(("try", (("say", ("worth", ("row", (1, "a b")))),), None, (("while", A, (("leave",),)),)),
                   deeds=(("go", deed(("tell", ("call", A, (ONE, A))), takes=("p", "q"))),),
                   kinds=(("box", kind(above=("m", "n"))),)),
        ))
        self.assertTrue(self.check_let_or_refused(text))
        let = 0
        for k in range(len(text) + 1):
            self.check_let_or_refused(text[:k] + text[k + 1:])
            for sign in "ab1-=:.'()[] \n":
                let += self.check_let_or_refused(text[:k] + sign + text[k:])
                let += self.check_let_or_refused(text[:k] + sign + text[k + 1:])
        self.assertGreater(let, 50)

    def test_blanks_and_brackets(self):
        """No bracket out of quotes may lack or stand twice, nor a blank but between two words."""
        lines = [line for _, line in LINES]
        lines += [line_with(f"(do {text})") for _, text in EXPRESSION_TEXTS]
        lines += [deed_with(text) for _, text in ROW_TEXTS + DEED_ROW_TEXTS]
        for line in lines:
            for k, sign in enumerate(line):
                if sign in "()[] " and line[:k].count("'") % 2 == 0:
                    self.check_refused_line(line[:k] + sign + line[k:])
                    if not line[k - 1:k + 2].replace(" ", "a").isalnum():
                        self.check_refused_line(line[:k] + line[k + 1:])

    def check_refused_line(self, line):
        with self.assertRaises(NoText) as caught:
            read_program(FIRST + "\n" + line)
        self.assertEqual(caught.exception.line, 1)


if __name__ == "__main__":
    unittest.main()
