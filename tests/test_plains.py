"""Plain runs: expressions, rows, calls, things, and what a Plain tells."""
import unittest

from everso.errors import NoCell, NoModule, NoThing
from everso.leading import led_deed, led_rows
from everso.plains import Plain
from samples import anything, comes_to, gone, program_of

GREATEST = 10 ** 15


def row(*worths):
    return ("row", worths)


def raised(word):
    return ("raised", word)


# One expression of each sort.
SORTS = {
    "none": "(= none)", "truth": "(= yes)", "number": "(= 1)", "text": "(= 'a')", "row": "(= [1])", "deed": "go",
    "closure": "(deed () ())", "kind": "box", "thing": "(new box ())", "giver": "(call gives ())",
}
DEEDS = "(gives () ((give x (= 1)))) (go () ())"
KINDS = "(box - ())"


class Words(unittest.TestCase):
    def check(self, cases, **more):
        for text, worth in cases:
            found = comes_to(text, **more)
            self.assertEqual((type(found), found), (type(worth), worth), text)

    def test_numbers(self):
        self.check((
            ("(plus (= 2) (= 3))", 5), ("(plus (= 2) (= -3))", -1), ("(minus (= 2) (= 3))", -1),
            ("(times (= -2) (= 3))", -6), ("(times (= 0) (= 3))", 0),
            ("(over (= 7) (= 2))", 3), ("(over (= -7) (= 2))", -4), ("(over (= 7) (= -2))", -4),
            ("(over (= -7) (= -2))", 3), ("(over (= 6) (= -2))", -3), ("(over (= 0) (= -2))", 0),
            ("(rest (= 7) (= 2))", 1), ("(rest (= -7) (= 2))", 1), ("(rest (= 7) (= -2))", -1),
            ("(rest (= -7) (= -2))", -1), ("(rest (= 6) (= -3))", 0), ("(rest (= 1) (= 3))", 1),
            ("(over (= 1) (= 0))", raised("nought")), ("(rest (= 0) (= 0))", raised("nought")),
        ))

    def test_numbers_at_their_bounds(self):
        self.check((
            (f"(plus (= {GREATEST - 1}) (= 1))", GREATEST), (f"(plus (= {GREATEST}) (= 1))", raised("great")),
            (f"(plus (= {1 - GREATEST}) (= -1))", -GREATEST), (f"(plus (= -{GREATEST}) (= -1))", raised("great")),
            (f"(minus (= {1 - GREATEST}) (= 1))", -GREATEST), (f"(minus (= -{GREATEST}) (= 1))", raised("great")),
            (f"(minus (= {GREATEST}) (= -1))", raised("great")),
            (f"(times (= {GREATEST}) (= -1))", -GREATEST), (f"(times (= {GREATEST}) (= 2))", raised("great")),
            (f"(times (= {GREATEST}) (= -2))", raised("great")), ("(times (= 10000000) (= 100000000))", GREATEST),
            (f"(over (= -{GREATEST}) (= -1))", GREATEST), (f"(rest (= {GREATEST}) (= 7))", GREATEST % 7),
        ))

    def test_less(self):
        self.check((
            ("(less (= 1) (= 2))", True), ("(less (= 2) (= 2))", False), ("(less (= 3) (= 2))", False),
            ("(less (= 'a') (= 'b'))", True), ("(less (= 'a') (= 'ab'))", True), ("(less (= 'B') (= 'a'))", True),
            ("(less (= '') (= ''))", False), ("(less (= 'b') (= 'a'))", False),
            ("(less (= 'a') (= 1))", raised("kind")), ("(less (= 1) (= 'a'))", raised("kind")),
        ))

    def test_same(self):
        self.check((
            ("(same (= 1) (= 1))", True), ("(same (= yes) (= 1))", False), ("(same (= no) (= 0))", False),
            ("(same (= [1]) (= [yes]))", False), ("(same (= [1 ['a']]) (= [1 ['a']]))", True),
            ("(same (= none) (= no))", False), ("(same (= 'a') (= 'a'))", True), ("(same (= '1') (= 1))", False),
            ("(same (new box ()) (new box ()))", False), ("(same t t)", True), ("(same (row (t)) (row (t)))", True),
            ("(same (row (t)) (row ((new box ()))))", False), ("(same go go)", True), ("(same box box)", True),
            ("(same go box)", False), ("(same (= ['thing' 0]) t)", False),
        ), ahead="(let t (new box ()))", deeds=DEEDS, kinds=KINDS)

    def test_not(self):
        self.check((("(not (= yes))", False), ("(not (= no))", True)))

    def test_join(self):
        self.check((
            ("(join (= 'ab') (= 'c'))", "abc"), ("(join (= '') (= ''))", ""),
            (f"(join (= '{'a' * 19}') (= 'b'))", "a" * 19 + "b"),
            (f"(join (= '{'a' * 19}') (= 'bc'))", raised("great")),
            ("(join (= [1]) (= [yes 'a']))", row(1, True, "a")), ("(join (= []) (= []))", row()),
            ("(join (= 'a') (= ['a']))", raised("kind")), ("(join (= []) (= ''))", raised("kind")),
            (f"(join (= [{' '.join(['1'] * 39)}]) (= [2]))", row(*[1] * 39, 2)),
            (f"(join (= [{' '.join(['1'] * 39)}]) (= [2 3]))", raised("great")),
        ))

    def test_size(self):
        self.check((
            ("(size (= ''))", 0), ("(size (= 'a b'))", 3), ("(size (= []))", 0), ("(size (= [1 [2 3]]))", 2),
        ))

    def test_at(self):
        self.check((
            ("(at (= [5 yes]) (= 0))", 5), ("(at (= [5 yes]) (= 1))", True),
            ("(at (= [5 yes]) (= 2))", raised("beyond")),
            ("(at (= [5 yes]) (= -1))", raised("beyond")), ("(at (= []) (= 0))", raised("beyond")),
            ("(at (= [5 yes]) (= yes))", raised("kind")), ("(at (= 'ab') (= 0))", raised("kind")),
            (f"(at (= [5]) (= {GREATEST}))", raised("beyond")),
        ))

    def test_sort(self):
        for sort, text in SORTS.items():
            word = {"closure": "deed", "giver": "thing"}.get(sort, sort)
            self.assertEqual(comes_to(f"(sort {text})", DEEDS, KINDS), word, text)

    def test_other_sorts_are_raised_as_kind(self):
        lets = {
            "plus": [("number", "number")], "minus": [("number", "number")], "times": [("number", "number")],
            "over": [("number", "number")], "rest": [("number", "number")],
            "less": [("number", "number"), ("text", "text")], "join": [("text", "text"), ("row", "row")],
            "at": [("row", "number")],
        }
        for word, pairs in lets.items():
            for one, first in SORTS.items():
                for other, second in SORTS.items():
                    found = comes_to(f"({word} {first} {second})", DEEDS, KINDS)
                    if (one, other) in pairs:
                        self.assertNotEqual(found, raised("kind"), (word, one, other))
                    else:
                        self.assertEqual(found, raised("kind"), (word, one, other))
        for word, sorts in (("not", ["truth"]), ("size", ["text", "row"])):
            for sort, text in SORTS.items():
                found = comes_to(f"({word} {text})", DEEDS, KINDS)
                self.assertEqual(found == raised("kind"), sort not in sorts, (word, sort))

    def test_kind_is_raised_ahead_of_nought_and_of_great(self):
        self.check((
            ("(over (= yes) (= 0))", raised("kind")), ("(rest (= 'a') (= 0))", raised("kind")),
            ("(over (= 1) (= no))", raised("kind")), (f"(plus (= {GREATEST}) (= yes))", raised("kind")),
            (f"(join (= '{'a' * 20}') (= [1]))", raised("kind")),
        ))


class Rows(unittest.TestCase):
    def test_parts_are_gone_from_left_to_right(self):
        said = "(deed (n) ((say n) (tell n)))"
        for text in (
            "(row ((call f ((= 1))) (call f ((= 2))) (call f ((= 3)))))",
            "(plus (call f ((= 1))) (call f ((= 2))))",
            "(call (call k ((= 1))) ((call f ((= 2))) (call f ((= 3)))))",
        ):
            rows = f"(let f {said}) (let k (deed (n) ((say n) (tell (deed (a b) ()))))) (do {text})"
            said_now = gone(rows).sayings()
            self.assertEqual(said_now, (1, 2, 3)[:len(said_now)], text)
            self.assertGreater(len(said_now), 1)

    def test_a_row_of_forty_and_of_one_more(self):
        forty = "(let r (= [" + " ".join(["0"] * 39) + "]))"
        self.assertEqual(comes_to("(size (join r (= [1])))", ahead=forty), 40)
        self.assertEqual(comes_to("(join r (= [1 2]))", ahead=forty), raised("great"))

    def test_a_row_of_eight_and_nine_deep(self):
        deep = "(let r (= []))" + "(let r (row (r)))" * 7
        self.assertEqual(gone(deep).stand(), ("ended",))
        self.assertEqual(gone(deep + "(let r (row (r)))").stand(), raised("great"))
        self.assertEqual(gone(deep + "(let r (join r r))").stand(), ("ended",))

    def test_a_row_of_two_hundred_worths_in_all_and_of_one_more(self):
        # Four rows of forty and themselves, the outermost one, and 35 more.
        forty = "(let r (= [" + " ".join(["0"] * 40) + "]))"
        self.assertEqual(comes_to("(join (row (r r r r)) s)", ahead=forty + self.of(35)),
            row(*[row(*[0] * 40)] * 4, *[0] * 35))
        self.assertEqual(comes_to("(join (row (r r r r)) s)", ahead=forty + self.of(36)), raised("great"))
        self.assertEqual(comes_to("(row (r r r r (= 0) (= 0)))", ahead=forty), row(*[row(*[0] * 40)] * 4, 0, 0))
        self.assertEqual(comes_to("(row (r r r r r))", ahead=forty), raised("great"))

    def of(self, many):
        return "(let s (= [" + " ".join(["0"] * many) + "]))"

    def test_things_deeds_and_kinds_may_be_in_a_row(self):
        self.assertEqual(
            comes_to("(row ((new box ()) go box (deed () ())))", DEEDS, KINDS),
            row(("thing", 0), ("deed", "main", "go"), ("kind", "main", "box"), ("thing", 1)),
        )


class Names(unittest.TestCase):
    def test_a_name_of_the_going_room_ahead_of_a_cell(self):
        plain = gone("(let a (= 1)) (say (call go ((= 2)))) (say a)", "(go (a) ((let a (plus a (= 1))) (tell a)))")
        self.assertEqual(plain.sayings(), (3, 1))

    def test_an_own_name_that_has_no_worth_yet_lacks_though_a_cell_has(self):
        self.assertEqual(
            gone("(let a (= 1)) (do (call go ()))", "(go () ((say a) (let a (= 2))))").stand(), raised("lacks"),
        )

    def test_names_of_the_rooms_around(self):
        plain = gone("""
            (let f (call go ((= 1)))) (let g (call f ((= 2)))) (say (call g ((= 3)))) (say (call g ((= 4))))
            (let h (call (call go ((= 9))) ((= 8)))) (say (call h ((= 7)))) (say (call g ((= 3))))
        """, """
            (go (a) ((tell (deed (b) ((tell (deed (c) ((say (row (a b c))) (tell (plus a (plus b c))))))))))
        )""")
        self.assertEqual(plain.sayings(), (row(1, 2, 3), 6, row(1, 2, 4), 7, row(9, 8, 7), 24, row(1, 2, 3), 6))

    def test_a_let_never_writes_a_room_around_a_keep_always_the_cell(self):
        plain = gone(
            "(let f (call go ((= 1)))) (say (call f ())) (say (call f ()))",
            "(go (a) ((tell (deed () ((keep b a) (let c (= 5)) (tell (row (a c b))))))))",
        )
        self.assertEqual(plain.sayings(), (row(1, 5, 1), row(1, 5, 1)))
        self.assertEqual(plain.cells("main"), ("f", "b"))

    def test_a_keep_writes_the_cell_though_the_name_is_an_own_one(self):
        plain = gone("(say (call go ((= 1)))) (say a)", "(go (a) ((keep a (= 2)) (tell a)))")
        self.assertEqual(plain.sayings(), (1, 2))

    def test_a_room_around_where_the_name_lacks(self):
        self.assertEqual(
            gone("(do (call (call go ()) ()))", "(go () ((tell (deed () ((tell a)))) (let a (= 1))))").stand(),
            raised("lacks"),
        )

    def test_deeds_and_kinds_by_names_and_far(self):
        more = ("(module aux ((go () ((tell (= 5))))) ((tin - ())) ((let a (= 1))))",)
        for text, worth in (
            ("(far aux go)", ("deed", "aux", "go")), ("(far aux tin)", ("kind", "aux", "tin")), ("(far aux a)", 1),
            ("(far aux b)", raised("lacks")), ("(far no a)", raised("lacks")),
            ("(far main gives)", ("deed", "main", "gives")),
            ("box", ("kind", "main", "box")), ("go", ("deed", "main", "go")), ("aux", raised("lacks")),
            ("it", raised("lacks")), ("(far main it)", raised("lacks")), ("(call (far aux go) ())", 5),
        ):
            self.assertEqual(comes_to(text, DEEDS, KINDS, more=more), worth, text)

    def test_a_deed_of_another_module_has_that_ones_cells(self):
        more = ("(module aux ((go () ((keep a (= 2)) (tell a)))) () ((let a (= 1))))",)
        plain = gone("(let a (= 7)) (say (call (far aux go) ())) (say a) (say (far aux a))", more=more)
        self.assertEqual(plain.sayings(), (2, 7, 2))


class Calls(unittest.TestCase):
    def test_takes_and_what_is_told(self):
        deeds = "(none () ()) (tells () ((tell (= 1)) (say (= 2)))) (two (a b) ((tell (minus a b))))"
        plain = gone("(say (call none ())) (say (call tells ())) (say (call two ((= 5) (= 3))))", deeds)
        self.assertEqual(plain.sayings(), (None, 1, 2))

    def test_many(self):
        for text in ("(call two ((= 1)))", "(call two ((= 1) (= 2) (= 3)))", "(call f ((= 1)))", "(call g ((= 1)))"):
            plain = gone(f"(let f (deed () ())) (do {text})", "(g () ((give x (= 1)))) (two (a b) ())")
            self.assertEqual((plain.stand(), plain.things()), (raised("many"), 1), text)

    def test_kind_of_what_is_no_deed(self):
        for sort, text in SORTS.items():
            found = comes_to(f"(call {text} ())", DEEDS, KINDS)
            self.assertEqual(found, None if sort in ("deed", "closure") else raised("kind"), sort)

    def test_a_call_ends_just_the_deed(self):
        plain = gone("(each x (= [1 2]) ((say (call go (x))) (say (= 'b'))))",
            "(go (n) ((each y (= [1 2]) ((tell n)))))")
        self.assertEqual(plain.sayings(), (1, "b", 2, "b"))

    def test_recursion(self):
        deeds = "(sum (n) ((if (less n (= 1)) ((tell (= 0))) ((tell (plus n (call sum ((minus n (= 1)))))))))) "
        self.assertEqual(gone("(say (call sum ((= 5))))", deeds, deep=6).sayings(), (15,))

    def test_closures_keep_their_rooms(self):
        plain = gone("""
            (let c (call count ())) (let d (call count ())) (say (call c ())) (say (call c ())) (say (call d ()))
        """, "(count () ((let t (new box ())) (put t n (= 0)) (tell (deed () ((put t n (plus (field t n) (= 1)))"
             " (tell (field t n)))))))", KINDS)
        self.assertEqual(plain.sayings(), (1, 2, 1))

    def test_what_is_around_a_closure(self):
        plain = gone("(let f (deed () ())) (let g (call go ()))", "(go () ((tell (deed (a) ((tell a))))))")
        self.assertEqual(plain.there(("up", 0)), ((((), ()), None),))
        self.assertEqual(plain.there(("up", 1)), (None,))
        self.assertEqual(plain.there(("up", 2)), (((("a",), (("tell", ("own", "a")),)), 1),))
        self.assertEqual([plain.thing(k) for k in range(3)], [("closure",), ("room",), ("closure",)])


class Things(unittest.TestCase):
    KINDS = """
        (base - (
            (make (self a) ((put self a a))) (name (self) ((tell (= 'base')))) (twice (self n) ((tell (times n (= 2)))))
        ))
        (kid main:base ((name (self) ((tell (= 'kid'))))))
        (odd main:gone ())
        (ring main:rong ((a (self) ((tell (= 1))))))
        (rong main:ring ())
    """

    def test_fields_their_order_and_what_puts_them_out(self):
        plain = gone("""
            (let t (new box ())) (put t b (= 1)) (put t a (= 2)) (put t b (= 3)) (say (fields t))
            (out t b) (say (fields t)) (put t b (= 4)) (say (fields t))
            (say (field t b)) (say (has t b)) (say (has t c))
        """, kinds=KINDS)
        self.assertEqual(plain.sayings(), (row("b", "a"), row("a"), row("a", "b"), 4, True, False))
        self.assertEqual(plain.thing(0), (("kind", "main", "box"), (("a", 2), ("b", 4))))
        self.assertEqual(plain.there(("names", 0)), (("a", "b"),))
        self.assertEqual(plain.there(("field", 0, "b")), (4,))

    def test_a_field_that_was_put_out_isnt_there(self):
        plain = gone("(let t (new box ())) (put t b (= 1)) (out t b) (say (has t b)) (do (field t b))", kinds=KINDS)
        self.assertEqual((plain.sayings(), plain.stand(), plain.there(("field", 0, "b"))),
            ((False,), raised("lacks"), ()))

    def test_lacks(self):
        for text in ("(do (field t c))", "(out t c)", "(do (send t no ()))"):
            plain = gone("(let t (new box ())) (put t b (= 1))" + text, kinds=KINDS)
            self.assertEqual(plain.stand(), raised("lacks"), text)
        self.assertEqual(gone("(let t (new box ())) (put t b (= 1)) (out t b) (out t b)", kinds=KINDS).stand(),
            raised("lacks"))

    def test_kind_of_what_is_no_thing_of_a_kind(self):
        for row_text in (
            "(do (field {} a))", "(do (has {} a))", "(do (fields {}))", "(put {} a (= 1))", "(out {} a)",
            "(do (send {} a ()))",
        ):
            for sort, text in SORTS.items():
                stand = gone(row_text.format(text), DEEDS, KINDS).stand()
                self.assertEqual(stand == raised("kind"), sort != "thing", (row_text, sort))

    def test_what_is_put_and_its_thing_are_gone_ahead_of_kind(self):
        for text in ("(put (= 1) a (ask w))", "(do (wake (= 1) (ask w)))", "(do (send (= 1) a ((ask w))))",
            "(do (new (= 1) ((ask w))))"):
            self.assertEqual(gone(text).stand(), ("waits", "w"), text)

    def test_new_with_make_from_above(self):
        plain = gone("(let t (new kid ((= 5)))) (say (field t a)) (say (send t name ())) (say (send t twice ((= 4))))",
            kinds=self.KINDS)
        self.assertEqual(plain.sayings(), (5, "kid", 8))
        self.assertEqual(plain.thing(0), (("kind", "main", "kid"), (("a", 5),)))

    def test_new_without_make(self):
        for kind in ("odd", "ring"):
            self.assertEqual(comes_to(f"(new {kind} ())", kinds=self.KINDS), ("thing", 0))
            plain = gone(f"(do (new {kind} ((= 1))))", kinds=self.KINDS)
            self.assertEqual((plain.stand(), plain.things()), (raised("many"), 1))

    def test_new_with_others_than_make_takes(self):
        for es in ("", "(= 1) (= 2)"):
            plain = gone(f"(do (new base ({es})))", kinds=self.KINDS)
            self.assertEqual((plain.stand(), plain.things()), (raised("many"), 1))

    def test_new_of_what_is_no_kind(self):
        for sort, text in SORTS.items():
            found = comes_to(f"(new {text} ())", DEEDS, KINDS)
            self.assertEqual(found == raised("kind"), sort != "kind", sort)

    def test_what_make_tells_is_unused(self):
        kinds = "(box - ((make (self) ((tell (= 5)))))) (tin - ((make (self) ((give x self)))))"
        self.assertEqual(comes_to("(new box ())", kinds=kinds), ("thing", 0))
        plain = gone("(let it (new tin ()))", kinds=kinds)
        self.assertEqual(plain.cell("main", "it"), ("thing", 0))
        self.assertEqual([plain.thing(k) for k in range(3)], [(("kind", "main", "tin"), ()), ("room",), ("giver",)])

    def test_what_make_raises_is_raised(self):
        plain = gone("(do (new box ()))", kinds="(box - ((make (self) ((raise (= 'no'))))))")
        self.assertEqual((plain.stand(), plain.things()), (raised("no"), 2))

    def test_chains(self):
        for kind, name, deed in (
            ("kid", "name", True), ("kid", "twice", True), ("kid", "no", False), ("odd", "name", False),
            ("ring", "a", True),
            ("rong", "a", True), ("ring", "b", False), ("rong", "b", False), ("no", "a", False),
        ):
            plain = gone(kinds=self.KINDS)
            self.assertEqual(len(plain.there(("chain", "main", kind, name))), deed, (kind, name))
        self.assertEqual(gone("(say (send (new rong ()) a ()))", kinds=self.KINDS).sayings(), (1,))
        self.assertEqual(gone("(do (send (new rong ()) b ()))", kinds=self.KINDS).stand(), raised("lacks"))

    def test_a_kind_with_an_above_in_another_module(self):
        more = ("(module aux () ((tin - ((name (self) ((tell here)))))) ((let here (= 3))))",)
        plain = gone("(let here (= 4)) (say (send (new can ()) name ()))", kinds="(can aux:tin ())", more=more)
        self.assertEqual(plain.sayings(), (3,))

    def test_send_with_others_than_the_deed_takes(self):
        for es in ("", "(= 1) (= 2)"):
            self.assertEqual(gone(f"(do (send (new kid ((= 1))) twice ({es})))", kinds=self.KINDS).stand(),
                raised("many"))

    def test_fields_of_forty_and_of_one_more(self):
        names = [one + other for one in "abcdef" for other in "abcdefg"]
        rows = "(let t (new box ()))" + "".join(f"(put t {name} (= 1))" for name in names[:40])
        self.assertEqual(gone(rows + "(say (size (fields t)))", kinds=KINDS).sayings(), (40,))
        self.assertEqual(gone(rows + f"(put t {names[40]} (= 1)) (do (fields t))", kinds=KINDS).stand(),
            raised("great"))


class Sayings(unittest.TestCase):
    def test_just_plain_worths_are_said(self):
        for sort, text in SORTS.items():
            for worth in (text, f"(row ({text}))"):
                plain = gone(f"(say {worth})", DEEDS, KINDS)
                is_plain = sort not in ("deed", "closure", "kind", "thing", "giver")
                self.assertEqual(plain.stand(), ("ended",) if is_plain else raised("kind"), worth)
                self.assertEqual(len(plain.sayings()), is_plain, worth)

    def test_a_row_of_the_text_thing_is_plain(self):
        self.assertEqual(gone("(say (= ['thing' 5]))").sayings(), (row("thing", 5),))


class Tellers(unittest.TestCase):
    PLAIN = None

    @classmethod
    def setUpClass(cls):
        cls.program = program_of("""
            (let b (= 1)) (let a (new box ())) (let b (= 2))
            (let f (deed () ())) (let g (call gives ())) (do (call go ()))
            (do (wake g (= none))) (let c (ask w)) (do (ask w)) (do (ask v))
        """, DEEDS, KINDS, ("(module aux () () ())",))
        cls.plain = Plain(cls.program, (("u", (1,)), ("v", ()), ("w", (5, ("row", (6,))))))

    def test_stand_and_sayings(self):
        self.assertEqual(self.plain.stand(), ("waits", "v"))
        self.assertEqual(self.plain.sayings(), ())
        self.assertEqual(gone("(raise (new box ()))", kinds=KINDS).stand(), ("raised", ("thing", 0)))
        self.assertEqual(gone().stand(), ("ended",))

    def test_cells(self):
        self.assertEqual(self.plain.cells("main"), ("b", "a", "f", "g", "c"))
        self.assertEqual(self.plain.cells("aux"), ())
        self.assertEqual(self.plain.cell("main", "b"), 2)
        self.assertEqual(self.plain.cell("main", "a"), ("thing", 0))
        for thing in anything() + ("no", "box", "aux ", "mai"):
            if thing != "main":
                with self.assertRaises(NoModule) as caught:
                    self.plain.cells(thing)
                self.assertIs(caught.exception.module, thing)
                with self.assertRaises(NoCell) as caught:
                    self.plain.cell(thing, "b")
                self.assertEqual(caught.exception.name, "b")
            if thing != "a":
                with self.assertRaises(NoCell) as caught:
                    self.plain.cell("main", thing)
                self.assertIs(caught.exception.name, thing)
        for name in ("box", "go", "gives", "d"):
            with self.assertRaises(NoCell):
                self.plain.cell("main", name)

    def test_things(self):
        self.assertEqual(self.plain.things(), 5)
        self.assertEqual(
            [self.plain.thing(k) for k in range(5)],
            [(("kind", "main", "box"), ()), ("closure",), ("room",), ("giver",), ("room",)],
        )
        for thing in anything() + (5, 6, "0", 10 ** 15):
            if thing not in (0, 1) or isinstance(thing, bool):
                with self.assertRaises(NoThing) as caught:
                    self.plain.thing(thing)
                self.assertIs(caught.exception.k, thing)

    def test_asked(self):
        self.assertEqual([self.plain.asked(well) for well in ("u", "v", "w", "x")], [0, 0, 2, 0])
        for thing in anything():
            self.assertEqual((self.plain.asked(thing), type(self.plain.asked(thing))), (0, int))

    def test_there(self):
        gives = led_deed("main", ((), (("give", "x", ("worth", 1)),)))
        for place, was in (
            (("field", 0, "a"), ()), (("names", 0), ((),)), (("names", 1), ()), (("names", 2), ()), (("names", 9), ()),
            (("sort", 0), (("kind", "main", "box"),)), (("sort", 1), (("closure",),)), (("sort", 2), (("room",),)),
            (("sort", 3), (("giver",),)), (("sort", 5), ()),
            (("up", 0), ()), (("up", 1), ((((), ()), None),)), (("up", 2), (None,)), (("up", 3), ((gives, 2),)),
            (("up", 5), ()),
            (("frame", 0), ()), (("frame", 2), ()), (("frame", 3), (("gave", ((0,),), ()),)), (("frame", 5), ()),
            (("cell", "main", "b"), (2,)), (("cell", "main", "go"), (("deed", "main", "go"),)),
            (("cell", "main", "box"), (("kind", "main", "box"),)), (("cell", "main", "d"), ()),
            (("cell", "no", "b"), ()),
            (("deed", "main", "gives"), (gives,)), (("deed", "main", "box"), ()), (("deed", "main", "b"), ()),
            (("chain", "main", "box", "make"), ()), (("asked", "w"), (2,)), (("asked", "u"), (0,)),
            (("asked", "no"), (0,)),
            (("told", "w", 0), (5,)), (("told", "w", 1), (("row", (6,)),)), (("told", "w", 2), ()),
            (("told", "u", 0), (1,)),
            (("told", "v", 0), ()), (("told", "no", 0), ()),
        ):
            self.assertEqual(self.plain.there(place), was, place)

    def test_there_of_anything_else(self):
        things = anything()
        for thing in things:
            for place in (
                thing, ("field", thing, "a"), ("field", 0, thing), ("names", thing), ("sort", thing), ("up", thing),
                ("frame", thing), ("cell", thing, "b"), ("cell", "main", thing), ("deed", "main", thing),
                ("told", "w", thing),
                ("chain", "main", thing, "make"), ("told", thing, 0), (thing, "main", "a"), ("cells", thing),
                ["sort", 0],
                ("field", 0, "a", thing), ("sort", 0, thing), ("asked", "w", thing),
            ):
                if place not in (
                    ("sort", 0), ("sort", 1), ("names", 0), ("up", 1), ("cell", "main", "a"), ("cell", "main", "b"),
                    ("told", "w", 0), ("told", "w", 1),
                ) or any(isinstance(part, bool) for part in place):
                    self.assertEqual(self.plain.there(place), (), place)
        self.assertEqual(self.plain.there(("cells", "main")), ())

    def test_bounds_behind_the_star_by_names_alone(self):
        with self.assertRaises(TypeError):
            Plain(self.program, (), 5)
        self.assertEqual(Plain(program=self.program, wells=(), most=100, deep=3).stand(), ("waits", "w"))

    def test_two_runs_share_nothing(self):
        one, other = Plain(self.program, ()), Plain(self.program, (("w", (1, 2)),))
        self.assertEqual((one.stand(), other.stand()), (("waits", "w"), ("waits", "v")))
        self.assertEqual((one.asked("w"), other.asked("w")), (0, 2))


class Modules(unittest.TestCase):
    def test_they_are_gone_by_names_but_main_last(self):
        more = ("(module a () () ((say (= 'a'))))", "(module z () () ((say (= 'z')) (say (far a b))))",
            "(module n () () ())")
        plain = gone("(say (= 'main'))", more=more)
        self.assertEqual((plain.sayings(), plain.stand()), (("a", "z"), raised("lacks")))

    def test_a_raised_worth_ends_the_run(self):
        plain = gone("(say (= 1))", more=("(module a () () ((let b (= 2)) (raise (= 5)) (let c (= 2))))",))
        self.assertEqual((plain.sayings(), plain.stand(), plain.cells("a")), ((), ("raised", 5), ("b",)))

    def test_led_rows_are_what_is_gone(self):
        self.assertEqual(led_rows("main", (("let", "a", ("name", "b")),)),
            (("let", ("cell", "main", "a"), ("cell", "main", "b")),))


if __name__ == "__main__":
    unittest.main()
