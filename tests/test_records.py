"""Records: what a Run tells of each of its stretches, and which of them it keeps."""
import unittest

from everso.leading import led_deed
from everso.runs import Run
from samples import program_of

OWN_N = ("own", "n")
SAY_ONE = ("say", ("worth", 1))


def run_of(rows, deeds="", kinds="", more=(), **bounds):
    return Run(program_of(rows, deeds, kinds, more), **bounds)


def records_of(*texts, **more):
    return [record for _, record in run_of(*texts, **more).records()]


def of_word(word, *texts, **more):
    """The records of stretches of a word, in order."""
    return [record for record in records_of(*texts, **more) if record[0][0] == word]


class Stretches(unittest.TestCase):
    def check(self, word, texts, *records):
        self.assertEqual(repr(of_word(word, *texts)), repr(list(records)))

    def test_a_module(self):
        self.check(
            "module", ("(let a (= 1)) (say a)",),
            (
                ("module", (("let", ("cell", "main", "a"), ("worth", 1)), ("say", ("cell", "main", "a")))), (), (),
                (("cell", "main", "a", 1), ("say", 1)), ("on",), 4, 0,
            ),
        )
        self.check("module", ("(raise (= 1))",),
            (("module", (("raise", ("worth", 1)),)), (), (), (), ("raised", 1), 2, 0))

    def test_a_module_without_rows(self):
        self.assertEqual(
            run_of("", more=("(module a () () ())",)).records(),
            ((None, (("module", ()), (), (), (), ("on",), 0, 0)),) * 2,
        )

    def test_a_deed(self):
        text = (("n",), (("tell", OWN_N),))
        self.check(
            "deed", ("(do (call go ((= 5))))", "(go (n) ((tell n)))"),
            (("deed", text), (None, (5,)), (), (("make", 0, ("room",), None), ("field", 0, "n", 5)), ("told", 5), 2, 1),
        )

    def test_ends_of_deeds(self):
        for rows, end in (("", ("told", None)), ("(tell (= none))", ("told", None)), ("(raise (= 1))", ("raised", 1))):
            record, = of_word("deed", "(try ((do (call go ()))) (e ()) ())", f"(go () ({rows}))")
            self.assertEqual(record[4], end)

    def test_a_closures_call(self):
        text = ((), (("tell", ("around", 1, "n")),))
        self.check(
            "deed", ("(do (call (call go ((= 5))) ()))", "(go (n) ((tell (deed () ((tell n))))))"),
            (
                ("deed", (("n",), (("tell", ("deed", (), (("tell", ("around", 1, "n")),))),))), (None, (5,)), (),
                (("make", 0, ("room",), None), ("field", 0, "n", 5), ("make", 1, ("closure",), (text, 0))),
                ("told", ("thing", 1)), 2, 1,
            ),
            (("deed", text), (0, ()), ((("field", 0, "n"), (5,)),), (("make", 2, ("room",), 0),), ("told", 5), 2, 1),
        )

    def test_the_rows_of_an_if_of_a_try_of_a_last(self):
        rows = (SAY_ONE,)
        record = (("rows", rows), (None, None), (), (("say", 1),), ("on",), 2, 0)
        for text in (
            "(if (= yes) ((say (= 1))) ())", "(if (= no) () ((say (= 1))))", "(try ((say (= 1))) - ())",
            "(try () - ((say (= 1))))",
        ):
            self.check("rows", (text,), record)
        self.check("rows", ("(do (call go ()))", "(go () ((if (= yes) ((say (= 1))) ())))"),
            record[:1] + ((0, None),) + record[2:])

    def test_rows_without_rows_are_none(self):
        rows = "(if (= yes) () ()) (if (= no) () ()) (try () (e ()) ()) (try ((raise (= 1))) (e ()) ())"
        self.assertEqual([record[0][0] for record in records_of(rows)], ["module", "rows"])

    def test_ends_of_rows(self):
        for rows, end in (("(leave)", ("left",)), ("(tell (= 7))", ("told", 7)), ("(raise (= 7))", ("raised", 7)),
            ("(do n)", ("on",))):
            record, = of_word("rows", "(try ((do (call go ((= 2))))) (e ()) ())",
                              f"(go (n) ((each x (= [1]) ((if (= yes) ({rows}) ())))))")[1:]
            self.assertEqual((record[1], record[4]), ((0, None), end))

    def test_caught(self):
        text = ("caught", ("cell", "main", "e"), (("say", ("cell", "main", "e")),))
        self.check(
            "caught", ("(try ((raise (= 5))) (e ((say e))) ())",),
            (text, (None, 5), (), (("cell", "main", "e", 5), ("say", 5)), ("on",), 2, 0),
        )
        text = ("caught", ("own", "e"), (("say", ("own", "e")),))
        self.check(
            "caught", ("(do (call go ()))", "(go () ((try ((raise (= 5))) (e ((say e))) ())))"),
            (text, (0, 5), (), (("field", 0, "e", 5), ("say", 5)), ("on",), 2, 0),
        )

    def test_caught_without_rows_is_none_but_its_name_is_put(self):
        records = records_of("(try ((raise (= 5))) (e ()) ())")
        self.assertEqual([record[0][0] for record in records], ["module", "rows"])
        self.assertEqual(records[0][3], (("cell", "main", "e", 5),))

    def test_turns_of_a_while(self):
        test = ("word", "less", (("cell", "main", "n"), ("worth", 1)))
        text = ("turn", ("while", test, (("let", ("cell", "main", "n"), ("worth", 1)),)))
        self.check(
            "turn", ("(let n (= 0)) (while (less n (= 1)) ((let n (= 1))))",),
            (text, (None, None), ((("cell", "main", "n"), (0,)),), (("cell", "main", "n", 1),), ("on",), 6, 0),
            (text, (None, None), ((("cell", "main", "n"), (1,)),), (), ("over",), 4, 0),
        )
        record, = of_word("turn", "(while (= yes) ((leave)))")
        self.assertEqual(record[4:], (("left",), 3, 0))
        record, = of_word("turn", "(while (= 1) ())")
        self.assertEqual(record[4:], (("raised", "kind"), 2, 0))

    def test_turns_of_an_each(self):
        text = ("turn", ("each", ("cell", "main", "x"), ("worth", ("row", (1, True))),
            (("say", ("cell", "main", "x")),)))
        self.check(
            "turn", ("(each x (= [1 yes]) ((say x)))",),
            (text, (None, 1), (), (("cell", "main", "x", 1), ("say", 1)), ("on",), 3, 0),
            (text, (None, True), (), (("cell", "main", "x", True), ("say", True)), ("on",), 3, 0),
        )

    def test_turns_without_rows(self):
        text = ("turn", ("each", OWN_N, ("worth", ("row", (5,))), ()))
        self.check(
            "turn", ("(do (call go ()))", "(go () ((each n (= [5]) ())))"),
            (text, (0, 5), (), (("field", 0, "n", 5),), ("on",), 1, 0),
        )

    def test_wakes(self):
        deed = (("n",), (("give", ("own", "x"), OWN_N), ("tell", ("own", "x"))))
        self.check(
            "wake", ("(let g (call go ((= 5)))) (do (wake g (= 1))) (do (wake g (= 2)))",
                "(go (n) ((give x n) (tell x)))"),
            (
                ("wake", deed), (1, 1),
                ((("frame", 1), (("new",),)), (("up", 1), ((deed, 0),)), (("field", 0, "n"), (5,))),
                (("frame", 1, ("going",)), ("frame", 1, ("gave", ((0,),), ()))), ("gave", 5), 2, 1,
            ),
            (
                ("wake", deed), (1, 2), ((("frame", 1), (("gave", ((0,),), ()),)), (("up", 1), ((deed, 0),))),
                (("frame", 1, ("going",)), ("field", 0, "x", 2), ("frame", 1, ("ended",))), ("told", 2), 2, 1,
            ),
        )

    def test_a_waking_that_ends_without_a_tell_or_raises(self):
        found = of_word("wake",
            "(try ((do (wake (call go ((= no))) (= 1))) (do (wake (call go ((= yes))) (= 1)))) (e ()) ())",
                        "(go (n) ((if n ((raise (= 9))) ()) (while n ((give x n)))))")
        self.assertEqual([record[4] for record in found], [("told", None), ("raised", 9)])
        self.assertEqual([record[3][-1][2] for record in found], [("ended",)] * 2)

    def test_what_cant_be_woken_is_no_stretch(self):
        found = of_word("wake", "(let g (call go ())) (do (wake g (= 1))) (do (wake g (= 1)))",
                        "(go () ((if (= no) ((give x (= 1))) ()) (try ((do (wake (far main g) (= 1)))) (e ()) ())))")
        self.assertEqual(len(found), 1)
        whole = of_word("module", "(let g (call go ())) (do (wake g (= 1))) (do (wake g (= 1)))",
                        "(go () ((if (= no) ((give x (= 1))) ()) (try ((do (wake (far main g) (= 1)))) (e ()) ())))")[0]
        self.assertEqual(whole[4], ("raised", "ended"))

    def test_what_bears_a_give_is_no_stretch_but_the_waking(self):
        rows = "(let g (call go ())) (do (wake g (= 1))) (do (wake g (= 1))) (do (wake g (= 1)))"
        deed = """(go () ((each x (= [1 2]) (
            (if (= yes) ((say (= 1))) ()) (try ((give y x) (if (= no) () ((say (= 2)))) (raise (= 3)))
            (e ((say e))) ((say (= 4)))))) (while (= no) ())))"""
        found = records_of(rows, deed)
        self.assertEqual([record[0][0] for record in found], [
            "module", "wake", "rows", "wake", "rows", "caught", "rows", "rows", "wake", "rows", "caught", "rows",
            "turn",
        ])

    def test_a_givers_call_is_no_stretch(self):
        self.assertEqual(
            [record[0][0] for record in records_of("(do (call go ()))", "(go () ((give x (= 1))))")], ["module"],
        )
        record, = records_of("(do (call go ((= 5))))", "(go (n) ((give x (= 1))))")
        deed = (("n",), (("give", ("own", "x"), ("worth", 1)),))
        self.assertEqual(record[3],
            (("make", 0, ("room",), None), ("field", 0, "n", 5), ("make", 1, ("giver",), (deed, 0))))


class Reads(unittest.TestCase):
    """What a turn reads that begins behind other rows."""
    KINDS = "(box - ((go (self) ((tell (= 5)))) (make (self) ((put self a (= 1))))))"

    def reads(self, ahead, row_text, deeds="", kinds=KINDS):
        record = of_word("turn", f"{ahead} (each x (= [0]) ({row_text}))", deeds, kinds)[-1]
        return [place for place, _ in record[2]]

    def test_of_each_expression_and_row(self):
        t = "(let t (new box ()))"
        cell = ("cell", "main", "t")
        box = ("cell", "main", "box")
        for ahead, text, places in (
            ("(let a (= 1))", "(do a)", [("cell", "main", "a")]),
            ("", "(do (far no a))", [("cell", "no", "a")]),
            (t, "(do (sort t))", [cell, ("sort", 0)]),
            ("(let t (= 1))", "(do (sort t))", [cell]),
            (t, "(do (same t t))", [cell]),
            (t, "(do (field t a))", [cell, ("sort", 0), ("field", 0, "a")]),
            (t, "(do (field t b))", [cell, ("sort", 0), ("field", 0, "b")]),
            (t, "(do (has t b))", [cell, ("sort", 0), ("field", 0, "b")]),
            (t, "(do (fields t))", [cell, ("sort", 0), ("names", 0)]),
            (t, "(put t b (= 1))", [cell, ("sort", 0), ("names", 0)]),
            (t, "(out t a)", [cell, ("sort", 0), ("names", 0)]),
            (t, "(out t b)", [cell, ("sort", 0), ("names", 0)]),
            (t, "(do (call t ()))", [cell, ("sort", 0)]),
            (t, "(do (wake t (= 1)))", [cell, ("sort", 0)]),
            (t, "(do (send t go ()))", [cell, ("sort", 0), ("chain", "main", "box", "go")]),
            (t, "(do (send t no ()))", [cell, ("sort", 0), ("chain", "main", "box", "no")]),
            ("", "(do (new box ()))", [box, ("chain", "main", "box", "make")]),
            ("", "(do (new box ((= 1))))", [box, ("chain", "main", "box", "make")]),
            ("", "(do (call go ()))", [("cell", "main", "go"), ("deed", "main", "go")]),
            ("", "(do (call go ((= 1))))", [("cell", "main", "go"), ("deed", "main", "go")]),
            ("(let f (deed () ()))", "(do (call f ()))", [("cell", "main", "f"), ("sort", 0), ("up", 0)]),
            ("(let f (deed () ()))", "(do (field f a))", [("cell", "main", "f"), ("sort", 0)]),
            ("(let g (call gives ()))", "(do (wake g (= 1)))",
                [("cell", "main", "g"), ("sort", 1), ("frame", 1), ("up", 1)]),
            ("(let g (call gives ())) (do (wake g (= 1))) (do (wake g (= 1)))", "(do (wake g (= 1)))",
             [("cell", "main", "g"), ("sort", 1), ("frame", 1)]),
            ("(let r (= []))", "(each y r ()) (if (= no) () ()) (do (row (r r)))", [("cell", "main", "r")]),
        ):
            self.assertEqual(self.reads(ahead, text + "(leave)", "(go () ()) (gives () ((give x (= 1))))"), places,
                text)

    def test_of_rooms(self):
        deeds = "(go (a) ((tell (deed (b) ((tell (deed (c) ((do c) (do b) (do a) (do b))))))))"
        record = of_word("deed", "(do (call (call (call go ((= 1))) ((= 2))) ((= 3))))", deeds + ")")[-1]
        # The room of the call is made within: the first one outwards is handed, but the second one read.
        self.assertEqual(record[1], (2, (3,)))
        self.assertEqual(record[2], ((("field", 2, "b"), (2,)), (("up", 2), (0,)), (("field", 0, "a"), (1,))))
        record = of_word("rows", "(do (call go ((= 1))))",
            "(go (a) ((if (= yes) ((do a) (let b a) (do b) (do c) (let c b)) ())))")
        self.assertEqual(record[0][2], ((("field", 0, "a"), (1,)), (("field", 0, "c"), ())))

    def test_what_is_asked(self):
        run = run_of("(each x (= [1]) ((say (ask w)) (say (ask w))))")
        run.tell("w", 5)
        self.assertEqual(run.records(), ())
        run.tell("w", 6)
        record = run.records()[1][1]
        self.assertEqual(record[2], ((("asked", "w"), (0,)), (("told", "w", 0), (5,)), (("told", "w", 1), (6,))))
        self.assertEqual(record[3],
            (("cell", "main", "x", 1), ("asked", "w", 1), ("say", 5), ("asked", "w", 2), ("say", 6)))

    def test_what_was_there_not_what_comes(self):
        record, = of_word("turn",
            "(let a (= 1)) (let t (new box ())) (each x (= [0]) ((put t b a) (let a (= 2)) (do (fields t)) (do a)))",
                          "", "(box - ())")
        self.assertEqual(record[2], (
            (("cell", "main", "t"), (("thing", 0),)), (("cell", "main", "a"), (1,)),
            (("sort", 0), (("kind", "main", "box"),)), (("names", 0), ((),)),
        ))
        self.assertEqual(record[3], (("cell", "main", "x", 0), ("field", 0, "b", 1), ("cell", "main", "a", 2)))

    def test_what_was_written_or_made_within_isnt_read(self):
        self.assertEqual(self.reads("", "(let a (= 1)) (do a) (keep a a)"), [])
        self.assertEqual(self.reads("", "(do x)"), [])
        self.assertEqual(
            self.reads("", """
                (let t (new box ())) (do (sort t)) (do (field t a)) (do (fields t))
                (out t a) (do (has t a)) (do (send t no ()))
            """),
            [("cell", "main", "box"), ("chain", "main", "box", "make"), ("chain", "main", "box", "no")],
        )
        self.assertEqual(
            self.reads("(let t (new box ()))", "(out t a) (do (has t a)) (put t a (= 1)) (do (field t a))"),
            [("cell", "main", "t"), ("sort", 0), ("names", 0)],
        )
        self.assertEqual(
            self.reads("", "(let g (call gives ())) (do (wake g (= 1))) (do (wake g (= 1)))",
                "(gives () ((give x (= 1))))"),
            [("cell", "main", "gives"), ("deed", "main", "gives")],
        )

    def test_each_place_once_in_the_order_of_the_first_times(self):
        self.assertEqual(
            self.reads("(let a (= 1)) (let b (= 2))", "(do b) (do a) (do b) (let a b) (do a) (do c)"),
            [("cell", "main", "b"), ("cell", "main", "a"), ("cell", "main", "c")],
        )

    def test_what_is_beneath_is_its_own_too(self):
        run = run_of("(let a (= 1)) (do (call go ()))", "(go () ((if (= yes) ((say (far main a))) ())))")
        whole, deed, rows = [record for _, record in run.records()]
        self.assertEqual(rows[2:], (((("cell", "main", "a"), (1,)),), (("say", 1),), ("on",), 2, 0))
        self.assertEqual(deed[2:], (rows[2], (("make", 0, ("room",), None), ("say", 1)), ("told", None), 4, 1))
        self.assertEqual([place for place, _ in whole[2]], [("cell", "main", "go"), ("deed", "main", "go")])
        self.assertEqual(whole[3:],
            ((("cell", "main", "a", 1), ("make", 0, ("room",), None), ("say", 1)), ("on",), 9, 1))


class Effects(unittest.TestCase):
    def test_of_each_sort(self):
        kinds = "(box - ((make (self a) ((put self a a)))))"
        record = of_word("module", "(let t (new box ((= 1)))) (out t a) (let f (deed () ())) (say (= none))", "",
            kinds)[0]
        self.assertEqual(record[3], (
            ("make", 0, ("kind", "main", "box"), None), ("make", 1, ("room",), None),
            ("field", 1, "self", ("thing", 0)),
            ("field", 1, "a", 1), ("field", 0, "a", 1), ("cell", "main", "t", ("thing", 0)), ("out", 0, "a"),
            ("make", 2, ("closure",), (((), ()), None)), ("cell", "main", "f", ("thing", 2)), ("say", None),
        ))

    def test_deep_counts_what_stands_upon_what_stood_ahead(self):
        deeds = "(down (n) ((if (less (= 0) n) ((do (call down ((minus n (= 1)))))) ())))"
        found = of_word("deed", "(do (call down ((= 2)))) (do (call down ((= 0))))", deeds)
        self.assertEqual([record[6] for record in found], [3, 2, 1, 1])
        found = of_word("rows", "(do (call down ((= 2))))", deeds)
        self.assertEqual([record[6] for record in found], [2, 1])

    def test_steps_are_those_made_within(self):
        run = run_of("(let n (= 0)) (while (less n (= 3)) ((let n (plus n (= 1)))))")
        records = [record for _, record in run.records()]
        self.assertEqual([record[5] for record in records], [run.steps(), 8, 8, 8, 4])


class Kept(unittest.TestCase):
    ROWS = "(each x (= [1 2 3]) ((say x) (if (same x (= 2)) ((do x)) ())))"

    def steps(self, run):
        return [(outer, record[0][0], record[5]) for outer, record in run.records()]

    def test_by_beginnings_an_outer_one_ahead(self):
        self.assertEqual(
            self.steps(run_of(self.ROWS)),
            [(None, "module", 25), (0, "turn", 7), (0, "turn", 9), (2, "rows", 2), (0, "turn", 7)],
        )

    def test_those_with_the_fewest_steps_go_of_alike_ones_the_later(self):
        whole = self.steps(run_of(self.ROWS))
        for keep, left in ((5, [0, 1, 2, 3, 4]), (4, [0, 1, 2, 4]), (3, [0, 1, 2]), (2, [0, 2]), (1, [0]), (0, [])):
            self.assertEqual([record[1:] for record in self.steps(run_of(self.ROWS, keep=keep))],
                [whole[k][1:] for k in left])

    def test_outer_is_the_nearest_one_there(self):
        rows = "(try ((try ((say (= 1)) (try ((say (= 2)) (say (= 3)) (do (ask w))) - ())) - ())) - ())"
        run = run_of("(if (= yes) ((say (= 0)) (if (= yes) ((each x (= [1 2]) ((say x)))) ())) ())", keep=3)
        self.assertEqual([outer for outer, _ in run.records()], [None, 0, 1])
        self.assertEqual([outer for outer, _ in run_of(rows).records()], [])

    def test_what_hasnt_ended_has_none_till_it_ends(self):
        run = run_of("(if (= yes) ((say (= 1)) (if (= yes) ((say (= 2))) ()) (say (ask w)) (say (ask w))) ())")
        self.assertEqual(self.steps(run), [(None, "rows", 2)])
        run.tell("w", 1)
        self.assertEqual(self.steps(run), [(None, "rows", 2)])
        run.tell("w", 2)
        self.assertEqual(self.steps(run), [(None, "module", 12), (0, "rows", 10), (1, "rows", 2)])

    def test_none_that_was_let_go_comes_again_by_a_tell(self):
        rows = "(each x (= [1 2]) ((say x))) (do (ask w)) (each x (= [1 2 3]) ((do (row (x x x)))))"
        run = run_of(rows, keep=1)
        self.assertEqual(self.steps(run), [(None, "turn", 3)])
        first = run.records()[0][1]
        run.tell("w", 1)
        self.assertEqual([record[1:] for record in self.steps(run)], [("module", run.steps())])
        run = run_of(rows, keep=3)
        run.tell("w", 1)
        self.assertEqual(self.steps(run), [(None, "module", run.steps()), (0, "turn", 6), (0, "turn", 6)])
        self.assertNotIn(first, [record for _, record in run.records()])

    def test_a_change_lets_records_go_too(self):
        run = run_of(self.ROWS, keep=2)
        run.change((("rows", "main", run.program()[0][3][:0]),))
        self.assertEqual(self.steps(run), [(None, "module", 0)])
        run.change((("rows", "main", program_of(self.ROWS)[0][3]),))
        self.assertEqual(self.steps(run), [(None, "module", 25), (0, "turn", 9)])


if __name__ == "__main__":
    unittest.main()
