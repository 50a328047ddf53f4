"""Runs: telling, speaking, changes, and what a Run tells."""
import unittest

from everso.errors import (
    Busy, NoCell, NoEdit, NoModule, NoName, NoProgram, NoStep, NoThing, NotYet, NoWorth, Said, TooDeep, TooLong,
)
from everso.holding import held_by
from everso.plains import Plain
from everso.programtexts import read_program
from everso.recordchecks import record_holds
from everso.runs import Run
from samples import anything, program_of, told_of

ADD = "(add (a b) ((tell (plus a b))))"


def run_of(rows="", deeds="", kinds="", more=(), **bounds):
    return Run(program_of(rows, deeds, kinds, more), **bounds)


def rows_of(text):
    return program_of(text)[0][3]


def deed_of(text):
    """The deed of a text such as (NAME (TAKE ..) (ROW ..))."""
    return program_of("", text)[0][1][0][1]


def kind_of(text):
    return program_of("", "", text)[0][2][0][1]


class Case(unittest.TestCase):
    def assert_stands(self, run):
        """A Run tells just what a Plain of its program and wells tells."""
        plain = Plain(run.program(), run.wells(), most=run.most, deep=run.deep)
        self.assertEqual(repr(told_of(run, run.program())), repr(told_of(plain, run.program())))
        for k in range(run.things()):
            for word in ("names", "sort", "up", "frame"):
                self.assertEqual(run.there((word, k)), plain.there((word, k)))
        for well, _ in run.wells():
            self.assertEqual(run.asked(well), plain.asked(well))
        self.assertEqual(run.sayings()[:run.spoken()], plain.sayings()[:run.spoken()])

    def all_of(self, run):
        """All that a Run tells of itself."""
        return repr((
            told_of(run, run.program()), run.program(), run.wells(), run.busy(), run.spoken(), run.records(),
            run.gone(),
            [run.at(step) for step in range(run.steps() + 1)],
        ))

    def assert_refused(self, run, refusal, fields, do, *handed):
        """It is refused so, and changes nothing."""
        told = self.all_of(run)
        with self.assertRaises(refusal) as caught:
            do(*handed)
        self.assertIs(type(caught.exception), refusal)
        self.assertEqual(repr(tuple(vars(caught.exception).values())), repr(tuple(fields)))
        self.assertEqual(self.all_of(run), told)

    def assert_change_refused(self, run, refusal, fields, edits):
        told = self.all_of(run)
        self.assertEqual(repr(run.would(edits)), repr(("refused", refusal.__name__, tuple(fields))))
        self.assertEqual(self.all_of(run), told)
        self.assert_refused(run, refusal, fields, run.change, edits)

    def assert_changed(self, run, edits, gone=None):
        """It is let, as it was told that it would."""
        told = self.all_of(run)
        would = run.would(edits)
        self.assertEqual(self.all_of(run), told)
        self.assertIsNone(run.change(edits))
        self.assertEqual(would, ("let", run.sayings(), run.stand(), run.gone()))
        self.assert_stands(run)
        if gone is not None:
            self.assertEqual(run.gone(), gone)


class Making(Case):
    def test_no_program(self):
        good = program_of("(say (= 1))")
        for thing in anything() + (good[0], list(good), (list(good[0]),), good + good,
            read_program("(module main () () ())")[0]):
            with self.assertRaises(NoProgram):
                Run(thing)
            with self.assertRaises(NoProgram):
                Run(thing, most=1, deep=0, keep=0)

    def test_too_long_and_too_deep(self):
        with self.assertRaises(TooLong) as caught:
            run_of("(say (= 1))", most=1)
        self.assertEqual(caught.exception.most, 1)
        with self.assertRaises(TooDeep) as caught:
            run_of("(do (call add ((= 1) (= 2))))", ADD, deep=0)
        self.assertEqual(caught.exception.deep, 0)
        with self.assertRaises(TooLong) as caught:
            run_of("(while (= yes) ())")
        self.assertEqual(caught.exception.most, 2000)

    def test_it_goes_as_a_plain_run_with_no_worths_told(self):
        run = run_of("(say (= 1)) (say (ask w)) (say (= 2))")
        self.assertEqual((run.sayings(), run.stand(), run.wells(), run.gone(), run.spoken()),
            ((1,), ("waits", "w"), (), 0, 0))
        self.assertFalse(run.busy())
        self.assert_stands(run)

    def test_bounds_behind_the_star_by_names_alone(self):
        with self.assertRaises(TypeError):
            Run(program_of(), 5)
        self.assertEqual(Run(program=program_of(), most=5, deep=1, keep=1).steps(), 0)

    def test_what_a_plain_tells_of_anything(self):
        run = run_of("(let a (= 1)) (do (ask w))")
        for thing in anything():
            self.assertEqual(run.asked(thing), 0)
            self.assertEqual(run.there(thing), ())
            with self.assertRaises(NoThing) as caught:
                run.thing(thing)
            self.assertIs(caught.exception.k, thing)
            if thing != "a":
                with self.assertRaises(NoCell) as caught:
                    run.cell("main", thing)
                self.assertIs(caught.exception.name, thing)
            if thing != "main":
                with self.assertRaises(NoModule) as caught:
                    run.cells(thing)
                self.assertIs(caught.exception.module, thing)
        self.assertEqual((run.cells("main"), run.cell("main", "a")), (("a",), 1))
        self.assertEqual(run.there(("cell", "main", "a")), (1,))

    def test_two_runs_share_nothing(self):
        program = program_of("(say (ask w)) (say (ask w))")
        one, other = Run(program), Run(program)
        one.tell("w", 1)
        one.speak()
        self.assertEqual((other.sayings(), other.wells(), other.spoken()), ((), (), 0))
        self.assertEqual((one.sayings(), one.wells(), one.spoken()), ((1,), (("w", (1,)),), 1))


class Telling(Case):
    def test_it_goes_on_as_far_as_it_does(self):
        run = run_of("(let n (= 0)) (while (less n (= 3)) ((let n (plus n (ask w))) (say n))) (say (ask v))")
        self.assertIsNone(run.tell("w", 1))
        self.assertEqual((run.sayings(), run.stand()), ((1,), ("waits", "w")))
        run.tell("v", "end")
        self.assertEqual((run.sayings(), run.stand(), run.asked("v")), ((1,), ("waits", "w"), 0))
        run.tell("w", 5)
        self.assertEqual((run.sayings(), run.stand(), run.asked("v")), ((1, 6, "end"), ("ended",), 1))
        run.tell("w", None)
        self.assertEqual(run.wells(), (("v", ("end",)), ("w", (1, 5, None))))
        self.assertEqual(run.asked("w"), 2)
        self.assert_stands(run)

    def test_it_goes_on_amid_calls_wakings_and_tries(self):
        run = run_of(
            """
            (let g (call go ())) (try ((say (call add ((ask w) (at (wake g (= 1)) (= 1)))))) (e ((say e))) ())
            (say (at (wake g (= 7)) (= 1)))
            """,
            ADD + "(go () ((each x (= [1 2]) ((try ((give y (ask w))) - ((say (ask v))))))))",
        )
        for well, worth in (("w", 1), ("w", 10), ("v", "a"), ("w", 20), ("v", "b")):
            run.tell(well, worth)
            self.assert_stands(run)
        self.assertEqual((run.sayings(), run.stand()), ((11, "a", 20), ("ended",)))

    def test_it_goes_on_in_the_room_in_which_it_waits(self):
        run = run_of("(say (call go ((= 5))))", "(go (n) ((let m (plus (ask w) n)) (tell (row (n m)))))")
        run.tell("w", 1)
        self.assertEqual(run.sayings(), (("row", (5, 6)),))
        self.assert_stands(run)

    def test_no_name_and_no_worth(self):
        run = run_of("(say (ask w))")
        for thing in anything():
            if thing not in ("a", "main", "none"):
                self.assert_refused(run, NoName, (), run.tell, thing, 1)
                self.assert_refused(run, NoName, (), run.tell, thing, [])
        for thing in (("thing", 0), ("deed", "main", "a"), ("row", (("thing", 0),)), 10 ** 15 + 1, "a" * 21, [], {},
            ("row", [])):
            self.assert_refused(run, NoWorth, (), run.tell, "w", thing)

    def test_too_long_and_too_deep(self):
        run = run_of("(say (ask w)) (if (at (ask w) (= 0)) ((say (= 1))) ((do (call add ((= 1) (= 2))))))", ADD,
            most=11, deep=0)
        run.tell("w", 5)
        run.speak()
        self.assert_refused(run, TooDeep, (0,), run.tell, "w", ("row", (False,)))
        run.tell("w", ("row", (True,)))
        self.assertEqual((run.sayings(), run.stand(), run.steps()), ((5, 1), ("ended",), 8))
        run = run_of("(while (ask w) ())", most=7)
        run.tell("w", True)
        run.tell("w", True)
        self.assert_refused(run, TooLong, (7,), run.tell, "w", True)
        self.assertEqual(run.wells(), (("w", (True, True)),))
        run.tell("w", False)
        self.assertEqual((run.steps(), run.stand()), (7, ("ended",)))

    def test_gone_is_left_as_it_is(self):
        run = run_of("(say (= 1)) (do (ask w)) (say (= 2))")
        run.change((("rows", "main", rows_of("(say (= 3)) (do (ask w)) (say (= 2))")),))
        self.assertEqual(run.gone(), 4)
        run.tell("w", 1)
        self.assertEqual((run.gone(), run.steps()), (4, 6))


class Speaking(Case):
    def run_with(self, many):
        return run_of(f"(each x (= [{' '.join(map(str, range(many)))}]) ((say x)))")

    def test_without_a_mouth(self):
        run = self.run_with(5)
        self.assertEqual(run.speak(), (0,))
        self.assertEqual((run.spoken(), run.speak(0), run.spoken()), (1, (), 1))
        self.assertEqual(run.speak(many=3), (1, 2, 3))
        self.assertEqual((run.spoken(), run.sayings()), (4, (0, 1, 2, 3, 4)))
        self.assertEqual((run.speak(1, mouth=None), run.speak(0)), ((4,), ()))
        with self.assertRaises(TypeError):
            run.speak(0, print)

    def test_not_yet(self):
        run = self.run_with(3)
        run.speak()
        for thing in anything() + (3, 4, "1", 10 ** 15):
            if thing not in (0, 1) or isinstance(thing, bool):
                self.assert_refused(run, NotYet, (thing,), run.speak, thing)
        self.assertEqual(run.speak(2), (1, 2))
        self.assert_refused(run, NotYet, (1,), run.speak)

    def test_a_mouth_is_called_with_each_in_order(self):
        run = self.run_with(4)
        heard = []

        def mouth(saying):
            heard.append((saying, run.spoken(), run.busy()))
            return "unused"
        self.assertEqual(run.speak(3, mouth=mouth), (0, 1, 2))
        self.assertEqual((heard, run.busy(), run.spoken()), ([(0, 0, True), (1, 1, True), (2, 2, True)], False, 3))
        self.assertEqual(run.speak(0, mouth=mouth), ())
        self.assertEqual(len(heard), 3)

    def test_a_mouth_that_raises(self):
        run = self.run_with(4)
        for why in (KeyError("a"), ValueError(), KeyboardInterrupt(), NotYet(7), Busy()):
            def mouth(saying):
                if saying == 1:
                    raise why
            with self.assertRaises(type(why)) as caught:
                run.speak(3, mouth=mouth)
            self.assertIs(caught.exception, why)
            self.assertEqual((run.spoken(), run.busy()), (1, False))
            run = self.run_with(4)
        run.speak(4)
        self.assertEqual(run.spoken(), 4)

    def test_busy(self):
        run = run_of("(say (= 1)) (say (= 2)) (say (ask w))")
        refused = []

        def mouth(saying):
            for do, handed in (
                (run.tell, ("w", 1)), (run.tell, (5, [])), (run.change, ((),)), (run.change, (7,)), (run.speak, ()),
                (run.speak, (None,)),
            ):
                with self.assertRaises(Busy):
                    do(*handed)
                refused.append(do)
        run.speak(2, mouth=mouth)
        self.assertEqual((len(refused), run.spoken(), run.wells(), run.stand()), (12, 2, (), ("waits", "w")))
        run.tell("w", 5)
        self.assertEqual(run.speak(), (5,))

    def test_what_is_asked_while_busy_is_told_as_if_it_were_not(self):
        run = run_of("(say (= 1)) (say (= 2))")
        edits = (("rows", "main", rows_of("(say (= 1)) (say (= 3))")),)
        would, told = [], []

        def mouth(saying):
            would.append(run.would(edits))
            told.append((run.sayings(), run.stand(), run.records(), run.at(2), run.spoken(), run.gone()))
        run.speak(2, mouth=mouth)
        self.assertEqual(would, [("let", (1, 3), ("ended",), 4)] * 2)
        self.assertEqual(told, [((1, 2), ("ended",), run.records(), (1, 0, 0), k, 0) for k in (0, 1)])
        self.assertEqual(run.would(edits), ("refused", "Said", (1, (2,), (3,))))

    def test_a_mouth_that_lets_a_refusal_out(self):
        run = run_of("(say (= 1)) (say (= 2))")
        with self.assertRaises(Busy):
            run.speak(2, mouth=lambda saying: run.speak())
        self.assertEqual((run.spoken(), run.busy()), (0, False))


class Edits(Case):
    PROGRAM = program_of(
        "(let n (= 0)) (say (call add ((= 1) (ask w)))) (say (ask w))", ADD, "(box - ())",
        ("(module aux ((go () ())) () ((let a (= 1))))",),
    )

    def ready(self):
        run = Run(self.PROGRAM)
        run.tell("w", 5)
        run.tell("w", 6)
        return run

    def test_a_deed(self):
        run = self.ready()
        self.assert_changed(run, (("deed", "main", "add", deed_of("(add (a b) ((tell (times a b))))")),))
        self.assertEqual(run.sayings(), (5, 6))
        self.assert_changed(run, (("deed", "main", "zoo", deed_of("(zoo () ())")),))
        self.assertEqual([name for name, _ in run.program()[1][1]], ["add", "zoo"])
        self.assert_changed(run, (("deed", "main", "add", None),))
        self.assertEqual((run.sayings(), run.stand()), ((), ("raised", "lacks")))
        self.assertEqual([name for name, _ in run.program()[1][1]], ["zoo"])
        self.assert_changed(run, (("deed", "main", "add", deed_of(ADD)),))
        self.assertEqual(run.sayings(), (6, 6))

    def test_a_kind(self):
        run = self.ready()
        kind = kind_of("(box - ((make (self) ())))")
        self.assert_changed(run, (("kind", "main", "box", kind), ("kind", "aux", "tin", kind)))
        self.assertEqual((run.program()[1][2], run.program()[0][2]), ((("box", kind),), (("tin", kind),)))
        self.assert_changed(run, (("kind", "main", "box", None),))
        self.assertEqual(run.program()[1][2], ())

    def test_rows(self):
        run = self.ready()
        self.assert_changed(run,
            (("rows", "main", rows_of("(say (far aux a))")), ("rows", "aux", rows_of("(let a (= 9))"))))
        self.assertEqual(run.sayings(), (9,))

    def test_a_module(self):
        run = self.ready()
        self.assert_changed(run, (("module", "aux", None),))
        self.assertEqual([module[0] for module in run.program()], ["main"])
        module = program_of("", "", "", ("(module bits () () ((say (= 1))))",))[0]
        self.assert_changed(run, (("module", "bits", module),))
        self.assertEqual((run.program()[0], run.sayings()), (module, (1, 6, 6)))
        self.assert_changed(run, (("module", "main", program_of("(say (= 2))")[0]),))
        self.assertEqual(run.sayings(), (1, 2))

    def test_a_told_worth(self):
        run = self.ready()
        self.assert_changed(run, (("told", "w", 0, -1),))
        self.assertEqual((run.sayings(), run.wells()), ((0, 6), (("w", (-1, 6)),)))
        self.assert_changed(run, (("told", "w", 1, None), ("told", "w", 0, 3), ("told", "w", 1, "end")))
        self.assertEqual((run.sayings(), run.wells()), ((4, "end"), (("w", (3, "end")),)))

    def test_one_behind_another(self):
        run = self.ready()
        module = ("extra", (), (), ())
        self.assert_changed(run, (
            ("module", "extra", module), ("deed", "extra", "go", ((), ())), ("deed", "extra", "go", None),
            ("rows", "extra", ()),
            ("kind", "extra", "go", (None, ())), ("module", "aux", None), ("kind", "main", "box", None),
            ("deed", "main", "box", ((), ())),
        ))
        self.assertEqual(run.program()[0], ("extra", (), (("go", (None, ())),), ()))
        self.assertEqual([name for name, _ in run.program()[1][1]], ["add", "box"])

    def test_none(self):
        run = self.ready()
        self.assert_changed(run, (), gone=0)
        self.assertEqual(run.program(), self.PROGRAM)

    def test_anything_that_is_no_tuple_or_too_many(self):
        run = self.ready()
        good = ("deed", "main", "zoo", ((), ()))
        for thing in anything():
            if not isinstance(thing, tuple) or len(thing) > 8:
                self.assert_change_refused(run, NoEdit, (-1,), thing)
        self.assert_change_refused(run, NoEdit, (-1,), (good,) * 9)
        self.assert_change_refused(run, NoEdit, (-1,), (None,) * 9)
        self.assert_change_refused(run, NoEdit, (-1,), [good])
        self.assert_changed(run, (good,) * 8)

    def wrong(self):
        deed, kind, module = ((), ()), (None, ()), ("aux", (), (), ())
        yield from (
            (), ("deed",), ("deed", "main"), ("deed", "main", "a"), ("deed", "main", "a", deed, deed),
            ("need", "main", "a", deed), "deed", None, 7,
            ["deed", "main", "a", deed], ("deed", "Main", "a", deed), ("deed", "main", "", deed),
            ("deed", 1, "a", deed),
            ("deed", "main", None, deed), ("deed", "main", "a", kind), ("deed", "main", "a", ((), (("leave",),))),
            ("deed", "main", "a", ()),
            ("deed", "main", "a", ((), (("own", "a"),))), ("deed", "main", "a", (("a", "a"), ())),
            ("deed", "main", "a", False),
            ("kind", "main", "a", deed), ("kind", "main", "a", (("main",), ())),
            ("kind", "main", "a", (None, (("b", deed), ("a", deed)))),
            ("kind", "main", "a"), ("kind", "main", 5, kind), ("kind", "main", "a", (None, (("a", deed), ("a", deed)))),
            ("kind", "main", "a", module), ("rows", "main"), ("rows", "main", None), ("rows", "main", [("leave",)]),
            ("rows", "main", (("leave",),)), ("rows", "main", (("tell", ("worth", 1)),)),
            ("rows", "main", (("give", "a", ("worth", 1)),)),
            ("rows", "mainmainm", ()), ("rows", "main", ("leave",)), ("rows", "main", (), ()),
            ("module", "aux"), ("module", "main", module), ("module", "aux", ("aux", (), ())), ("module", "AUX", None),
            ("module", "aux", ()),
            ("module", "aux", ("aux", (("a", deed),), (("a", kind),), ())),
            ("module", "aux", ("aux", (("a", deed),), (), (("let", "a", ("worth", 1)),))),
            ("module", "aux", "aux"), ("told", "w", 0), ("told", "w", -1, 1), ("told", "w", True, 1),
            ("told", "w", False, 1), ("told", "w", "0", 1),
            ("told", "w", None, 1), ("told", "w", 0, ("thing", 1)), ("told", "w", 0, 10 ** 16), ("told", "", 0, 1),
            ("told", "w", 0, []),
            ("told", "w", 0, 1, 1), ("told", ["w"], 0, 1),
        )

    def test_what_is_none_by_its_form(self):
        run = self.ready()
        good = ("deed", "main", "zoo", ((), ()))
        # One that can't be made, but by its form is an edit.
        late = ("deed", "no", "zoo", ((), ()))
        for wrong in self.wrong():
            for k, edits in enumerate(((wrong,), (good, wrong), (late, good, wrong), (good, late, late, wrong, wrong))):
                self.assert_change_refused(run, NoEdit, (edits.index(wrong),), edits)
        for thing in anything():
            self.assert_change_refused(run, NoEdit, (1,), (good, thing))

    def test_what_isnt_there(self):
        run = self.ready()
        good = ("deed", "main", "zoo", ((), ()))
        for edit in (
            ("deed", "no", "a", ((), ())), ("deed", "no", "a", None), ("deed", "main", "no", None),
            ("deed", "aux", "add", None),
            ("deed", "main", "box", None), ("kind", "no", "a", (None, ())), ("kind", "no", "a", None),
            ("kind", "main", "no", None),
            ("kind", "main", "add", None), ("rows", "no", ()), ("module", "no", None), ("told", "w", 2, 1),
            ("told", "v", 0, 1),
            ("told", "w", 10 ** 30, 1),
        ):
            self.assert_change_refused(run, NoEdit, (0,), (edit,))
            self.assert_change_refused(run, NoEdit, (1,), (good, edit, edit))
        self.assert_change_refused(run, NoEdit, (1,), (("module", "aux", None), ("rows", "aux", ())))
        self.assert_change_refused(run, NoEdit, (1,), (("deed", "main", "add", None), ("deed", "main", "add", None)))

    def test_no_program(self):
        run = self.ready()
        deed, kind = ((), ()), (None, ())
        for edits in (
            (("module", "main", None),), (("deed", "main", "box", deed),), (("kind", "main", "add", kind),),
            (("deed", "main", "n", deed),),
            (("kind", "main", "n", kind),), (("rows", "main", rows_of("(let add (= 1))")),),
            (("rows", "main", rows_of("(let box (= 1))")),),
            (("deed", "aux", "a", deed),), (("deed", "aux", "b", deed_of("(b () ((keep go (= 1))))")),),
        ):
            self.assert_change_refused(run, NoProgram, (), edits)
        # It goes behind every edit that can't be made.
        self.assert_change_refused(run, NoEdit, (1,), (("module", "main", None), ("module", "no", None)))
        self.assert_changed(run, (("deed", "main", "box", deed), ("kind", "main", "box", None)))

    def test_changes_of_anything_while_nothing_changes(self):
        run = self.ready()
        told = self.all_of(run)
        for thing in anything():
            for edit in (
                thing, (thing,), (("deed", "main", thing, ((), ())),), (("deed", thing, "a", ((), ())),),
                (("deed", "main", "a", thing),),
                (("kind", "main", "a", thing),), (("rows", "main", thing),), (("module", "aux", thing),),
                (("told", "w", thing, 1),),
                (("told", "w", 0, thing),), ((thing, "main", "a", None),),
            ):
                self.assertIn(run.would(edit)[0], ("let", "refused"))
        self.assertEqual(self.all_of(run), told)


class Changes(Case):
    def test_said(self):
        run = run_of("(say (= 1)) (say (= 2)) (say (= 3))")
        edits = (("rows", "main", rows_of("(say (= 1)) (say (= 5))")),)
        run.speak()
        self.assertEqual(run.would(edits), ("let", (1, 5), ("ended",), 4))
        run.speak()
        self.assert_change_refused(run, Said, (1, (2,), (5,)), edits)
        self.assert_change_refused(run, Said, (1, (2,), ()), (("rows", "main", rows_of("(say (= 1))")),))
        self.assert_change_refused(run, Said, (0, (1,), ()), (("rows", "main", ()),))
        self.assert_change_refused(run, Said, (0, (1,), (2,)), (("rows", "main", rows_of("(say (= 2)) (say (= 1))")),))
        self.assert_change_refused(run, Said, (0, (1,), (True,)),
            (("rows", "main", rows_of("(say (= yes)) (say (= 2))")),))
        self.assert_changed(run, (("rows", "main", rows_of("(say (= 1)) (say (= 2))")),))

    def test_said_where_it_waits_sooner(self):
        run = run_of("(say (= 1)) (do (ask w)) (say (= 2))")
        run.tell("w", 1)
        run.speak(2)
        self.assert_change_refused(run, Said, (1, (2,), ()),
            (("rows", "main", rows_of("(say (= 1)) (do (ask v)) (say (= 2))")),))

    def test_said_rows_and_none(self):
        run = run_of("(say (= none)) (say (= [1 yes]))")
        run.speak(2)
        self.assert_change_refused(run, Said, (1, (("row", (1, True)),), (("row", (1, 1)),)),
                                   (("rows", "main", rows_of("(say (= none)) (say (= [1 1]))")),))
        self.assert_change_refused(run, Said, (0, (None,), ()), (("rows", "main", ()),))

    def test_too_long_and_too_deep_ahead_of_said(self):
        run = run_of("(say (= 1))", ADD, most=20, deep=1)
        run.speak()
        self.assert_change_refused(run, TooLong, (20,), (("rows", "main", rows_of("(while (= yes) ())")),))
        deep = "(say (= 2)) (do (call (deed () ((do (call (deed () ()) ())))) ()))"
        self.assert_change_refused(run, TooDeep, (1,), (("rows", "main", rows_of(deep)),))
        self.assert_change_refused(run, Said, (0, (1,), (2,)), (("rows", "main", rows_of("(say (= 2))")),))
        # Forms go ahead of all that.
        self.assert_change_refused(run, NoEdit, (1,), (("rows", "main", rows_of("(while (= yes) ())")), ()))

    def test_at_just_the_bounds(self):
        run = run_of("(say (= 1))", most=4, deep=1)
        self.assert_change_refused(run, TooLong, (4,), (("rows", "main", rows_of("(say (= 1)) (do (row ((= 2))))")),))
        run.change((("rows", "main", rows_of("(say (= 1)) (say (= 2))")),))
        self.assertEqual(run.steps(), 4)

    def test_a_record_beyond_the_bounds_isnt_taken(self):
        run = run_of("(do (call go ()))", "(go () ((do (= 1)) (do (= 2))))", most=9)
        self.assertEqual(run.steps(), 7)
        run.change((("rows", "main", rows_of("(do (= 0)) (do (call go ()))")),))
        self.assertEqual((run.steps(), run.gone()), (9, 5))
        self.assert_change_refused(run, TooLong, (9,),
            (("rows", "main", rows_of("(do (= 0)) (do (= 0)) (do (call go ()))")),))
        run = run_of("(do (call go ()))", "(go () ()) (over () ((do (call go ()))))", deep=1)
        self.assert_change_refused(run, TooDeep, (1,), (("rows", "main", rows_of("(do (call over ()))")),))

    def test_gone_of_nothing_put_otherwise(self):
        run = run_of("(each x (= [1 2 3]) ((say x))) (do (ask w)) (each x (= [1 2 3]) ((say x)))")
        # It waits: the module's own rows have no record yet, its turns have.
        self.assert_changed(run, (), gone=4)
        run.tell("w", 1)
        self.assert_changed(run, (), gone=0)
        self.assert_changed(run, (("rows", "main", run.program()[0][3]),), gone=0)

    def test_gone_of_a_told_worth(self):
        deeds = "(go () ((let a (plus (= 1) (= 2))) (tell a)))"
        run = run_of("(say (call go ())) (say (ask w)) (say (call go ()))", deeds)
        run.tell("w", 1)
        # The rows are gone anew, the calls aren't: their deed makes six steps.
        self.assertEqual(run.steps(), 20)
        self.assert_changed(run, (("told", "w", 0, 2),), gone=8)
        self.assertEqual(run.sayings(), (3, 2, 3))
        self.assert_changed(run, (("told", "w", 0, 2),), gone=0)
        self.assert_changed(run, (("told", "w", 0, True),), gone=8)

    def test_gone_of_a_deed_put_otherwise(self):
        deeds = "(one () ((tell (= 1)))) (two () ((tell (= 2))))"
        run = run_of("(say (call one ())) (say (call two ()))", deeds)
        self.assertEqual(run.steps(), 10)
        self.assert_changed(run, (("deed", "main", "two", deed_of("(two () ((tell (= 3))))")),), gone=8)
        self.assertEqual(run.sayings(), (1, 3))

    def test_gone_of_a_deed_that_nothing_calls(self):
        run = run_of("(say (= 1))", ADD)
        self.assert_changed(run,
            (("deed", "main", "add", None), ("deed", "main", "zoo", ((), ())), ("kind", "main", "tin", (None, ()))),
            gone=0)

    def test_gone_of_rows_put_otherwise(self):
        run = run_of("(do (call go ((= 1)))) (do (call go ((= 2))))", "(go (n) ((do n) (do n) (do n)))")
        self.assert_changed(run, (("rows", "main", rows_of("(do (call go ((= 2)))) (do (call go ((= 1))))")),), gone=8)
        self.assert_changed(run, (("rows", "main", rows_of("(do (call go ((= 1)))) (do (call go ((= 1))))")),), gone=14)

    def test_a_change_and_its_way_back(self):
        run = run_of("(do (call go ((= 1)))) (say (= 1))", "(go (n) ((do n)))")
        before = self.all_of(run)
        self.assert_changed(run, (("rows", "main", rows_of("(do (call go ((= 1)))) (say (= 2))")),), gone=6)
        self.assert_changed(run, (("rows", "main", rows_of("(do (call go ((= 1)))) (say (= 1))")),), gone=6)
        self.assert_changed(run, (), gone=0)
        self.assertEqual(self.all_of(run), before)

    def test_several_at_once_come_to_the_same_as_one_behind_another(self):
        program = program_of("(say (call add ((ask w) (= 1)))) (say (far aux a))", ADD, "",
            ("(module aux () () ((let a (= 1))))",))
        edits = (
            ("deed", "main", "add", deed_of("(add (a b) ((tell (times a b))))")),
            ("rows", "aux", rows_of("(let a (= 2))")),
            ("told", "w", 0, 4), ("kind", "main", "box", (None, ())),
        )
        one, other = Run(program), Run(program)
        for run in (one, other):
            run.tell("w", 3)
        one.change(edits)
        for edit in edits:
            other.change((edit,))
        self.assertEqual(told_of(one, one.program()), told_of(other, other.program()))
        self.assertEqual((one.sayings(), one.program(), one.records()), ((4, 2), other.program(), other.records()))

    def test_things_are_matched_one_to_one_though_their_numbers_are_others(self):
        deeds = "(fill (t u) ((put t a (= 1)) (put u b (same t u)) (tell (row (t u (new box ()))))))"
        run = run_of("(let p (new box ())) (let q (new box ())) (let r (call fill (p q)))", deeds, "(box - ())")
        steps_of_call = 14
        self.assertEqual(run.steps(), steps_of_call + 3 + 3 + 5)
        self.assert_changed(run, (("rows", "main", rows_of(
            "(do (new box ())) (let q (new box ())) (let p (new box ())) (let r (call fill (p q)))")),),
                gone=3 + 3 + 3 + 5)
        self.assertEqual(run.cell("main", "r"), ("row", (("thing", 2), ("thing", 1), ("thing", 4))))
        self.assertEqual(run.thing(2), (("kind", "main", "box"), (("a", 1),)))
        # Where the two things are one, it is no more held.
        self.assert_changed(run, (("rows", "main", rows_of("(let p (new box ())) (let r (call fill (p p)))")),),
            gone=steps_of_call + 3 + 5)

    def test_two_that_were_one(self):
        run = run_of("(let p (new box ())) (do (call go (p p)))", "(go (t u) ((do t) (do u)))", "(box - ())")
        self.assert_changed(run, (("rows", "main", rows_of("(let p (new box ())) (do (call go (p (new box ()))))")),),
            gone=run.steps() + 1)

    def test_what_it_read_alone_counts(self):
        run = run_of("(let a (= 1)) (let b (= 2)) (do (call go ()))", "(go () ((do (row (a a)))))")
        other = "(let b (= 5)) (let c (= 1)) (let a (= 1)) (do (call go ()))"
        self.assert_changed(run, (("rows", "main", rows_of(other)),), gone=2 + 2 + 2 + 3)
        self.assert_changed(run, (("rows", "main", rows_of(other.replace("(let a (= 1))", "(let a (= yes))"))),),
            gone=2 + 2 + 2 + 3 + 4)

    def test_a_record_is_taken_once_at_most(self):
        run = run_of("(do (call go ()))", "(go () ((do (= 1))))")
        self.assert_changed(run, (("rows", "main", rows_of("(do (call go ())) (do (call go ()))")),), gone=3 + 5)
        self.assert_changed(run, (("rows", "main", rows_of("(do (call go ())) (do (call go ())) (do (= 5))")),),
            gone=3 + 3 + 2)

    def test_none_within_a_taken_one_and_none_around_it(self):
        deeds = "(inn () ((do (= 1)))) (out () ((do (call inn ()))))"
        run = run_of("(do (call out ()))", deeds)
        # The record of out is taken, and with it that of inn within: a second call of inn is gone.
        self.assert_changed(run, (("rows", "main", rows_of("(do (call out ())) (do (call inn ()))")),), gone=3 + 3 + 2)
        run = run_of("(do (call out ()))", deeds)
        # That of inn is taken first: that of out around it isn't any more.
        self.assert_changed(run, (("rows", "main", rows_of("(do (call inn ())) (do (call out ()))")),),
            gone=3 + 3 + 3 + 2)

    def test_records_behind_a_change_are_as_if_each_had_been_gone(self):
        deeds = "(inn (n) ((do n))) (out (n) ((if (= yes) ((do (call inn (n)))) ())))"
        rows = "(do (call out ((= 1)))) (each x (= [1 2]) ((do (call out (x)))))"
        run = run_of("(say (= 1))" + rows, deeds, "(box - ())")
        run.change((("rows", "main", rows_of("(do (new box ())) (do (new box ()))" + rows)),))
        fresh = run_of("(do (new box ())) (do (new box ()))" + rows, deeds, "(box - ())")
        self.assertEqual(run.records(), fresh.records())
        self.assertLess(run.gone(), run.steps())

    def test_those_within_taken_ones_as_far_as_there_were_records(self):
        deeds = "(inn (n) ((do n))) (out (n) ((do (call inn (n)))))"
        run = run_of("(do (call out ((= 1))))", deeds, keep=2)
        self.assertEqual([record[0][0] for _, record in run.records()], ["module", "deed"])
        run.change((("rows", "main", rows_of("(do (call out ((= 1)))) (do (= 5))")),))
        self.assertEqual([(outer, record[5]) for outer, record in run.records()], [(None, 12), (0, 6)])
        self.assertEqual(run.gone(), 6)
        run.change((("deed", "main", "out", deed_of("(out (n) ((do (call inn (n))) (do n)))")),))
        self.assertEqual(run.gone(), run.steps())
        self.assertEqual([record[5] for _, record in run.records()], [14, 8])

    def test_each_effect_of_a_taken_record_is_done_to_the_things_led_to(self):
        deeds = """
            (fill (t) ((put t a (= 1)) (out t b) (keep last t) (keep rows (row (t (row (t)))))))
            (hold (t) ((each x (row (t (= 2))) ((try ((tell x)) - ((give y (= 1))))))))
        """
        rows = """
            (let t (new box ())) (put t b (= 5)) (do (call fill (t))) (let g (call hold (t))) (do (wake g (= 0)))
            (say (same (at (wake g (= 0)) (= 1)) t))
        """
        run = run_of("(do (new box ()))" + rows, deeds, "(box - ())")
        taken = sum(record[5] for _, record in run.records() if record[0][0] in ("deed", "wake"))
        self.assert_changed(run, (("rows", "main", rows_of("(do (new box ())) (do (new box ()))" + rows)),),
            gone=run.steps() + 3 - taken)
        self.assertEqual(run.thing(2), (("kind", "main", "box"), (("a", 1),)))
        self.assertEqual((run.cell("main", "last"), run.sayings()), (("thing", 2), (True,)))
        self.assertEqual(run.records(), Run(run.program()).records())
        self.assert_changed(run, (("rows", "main", rows_of(rows)),), gone=run.steps() - 6 - taken)
        self.assertEqual((run.cell("main", "rows"), run.thing(0)[1]),
            (("row", (("thing", 0), ("row", (("thing", 0),)))), (("a", 1),)))
        self.assertEqual(run.records(), Run(run.program()).records())

    def test_keep_none(self):
        run = run_of("(say (call add ((= 1) (= 2))))", ADD, keep=0)
        self.assert_changed(run, (), gone=run.steps())
        self.assertEqual(run.records(), ())

    def test_a_giver_within_taken_records_goes_on(self):
        deeds = "(go (n) ((each x (= [1 2 3]) ((try ((give y (plus n x))) - ((say x)))))))"
        twice = "(let g (call go ((= 10)))) (say (wake g (= 0))) (say (wake g (= 0)))"
        run = run_of(f"{twice} (say (ask w)) (say (wake g (= 0)))", deeds)
        run.tell("w", 5)
        taken = sum(record[5] for _, record in run.records() if record[0][0] == "wake")
        self.assert_changed(run, (("told", "w", 0, 6),), gone=run.steps() - taken)
        self.assert_changed(run, (("rows", "main", rows_of(
            f"{twice} (say (wake g (= 0))) (say (wake g (= 0)))")),))
        self.assertEqual(run.sayings()[-2:], (3, ("row", (False, None))))

    def test_behind_each_deed_it_stands_as_a_plain_run(self):
        run = run_of("(let n (= 0)) (while (less n (= 3)) ((let n (plus n (ask w))) (say (call add (n (= 1))))))", ADD)
        for well, worth in (("w", 1), ("w", True), ("w", 1)):
            run.tell(well, worth)
            self.assert_stands(run)
        self.assertEqual(run.stand(), ("raised", "kind"))
        self.assert_changed(run, (("told", "w", 1, 1),))
        self.assertEqual(run.sayings(), (2, 3, 4))
        run.speak(2)
        self.assert_change_refused(run, Said, (1, (3,), (4,)), (("told", "w", 1, 2),))
        self.assert_changed(run, (("told", "w", 2, 5),))
        self.assertEqual(run.sayings(), (2, 3, 8))


class Nested(Case):
    def rows(self, deeds):
        """Rows in which deeds, bodies and expressions stand within one another, ten for each deed."""
        inner = ("call", ("deed", (), self.rows(deeds - 1)), ()) if deeds else ("ask", "w")
        for _ in range(2):
            inner = ("word", "at", (("row", (inner,)), ("worth", 0)))
        rows = (("say", inner), ("tell", ("worth", deeds)))
        for _ in range(2):
            rows = (("try", (("if", ("worth", True), rows, ()),), None, ()),)
        return (("each", "x", ("worth", ("row", (1,))), rows),)

    def test_forty_within_one_another_and_eighty_as_they_go(self):
        deeds = (("go", (("n",), (
            ("if", ("word", "less", (("worth", 0), ("name", "n"))), (
                ("tell", ("call", ("name", "go"), (("word", "minus", (("name", "n"), ("worth", 1))),))),
            ), self.rows(3)),
        ))),)
        rows = (("do", ("call", ("name", "go"), (("worth", 7),))),)
        program = (("main", deeds, (), rows),)
        run = Run(program, most=5000, deep=12)
        self.assertEqual(run.stand(), ("waits", "w"))
        run.tell("w", 5)
        self.assertEqual((run.sayings(), run.stand()), ((5, 0, 1, 2), ("ended",)))
        self.assertEqual(max(record[6] for _, record in run.records()), 11)
        self.assert_changed(run, (("told", "w", 0, 6),))
        self.assertEqual(run.sayings(), (6, 0, 1, 2))
        self.assert_changed(run, (), gone=0)
        plain = Plain(program, run.wells(), most=5000, deep=12)
        for _, record in run.records():
            self.assertTrue(record_holds(record))
            self.assertIsNone(held_by(record, Plain(program, (), deep=11), record[1]))
        whole = run.records()[0][1]
        self.assertIsNone(held_by(whole, plain, ()))


class Steps(Case):
    def test_at_of_each_step(self):
        run = run_of("(say (call go ((= 1)))) (let t (new box ()))", "(go (n) ((say n) (tell n)))", "(box - ())")
        # say, call, go, = and then, in the call with its room made, say, n, tell, n; let, new, box.
        found = [run.at(step) for step in range(run.steps() + 1)]
        self.assertEqual(found, [
            (0, 0, 0), (0, 0, 0), (0, 0, 0), (0, 0, 0), (0, 1, 1), (0, 1, 1), (1, 1, 1), (1, 1, 1), (2, 1, 0),
            (2, 1, 0), (2, 1, 0), (2, 2, 0),
        ])

    def test_at_the_end_of_all_where_it_waits(self):
        run = run_of("(do (call go ((= 1))))",
            "(go (n) ((do (wake (call gives ()) (ask w))))) (gives () ((give x (ask v))))")
        self.assertEqual(run.at(run.steps()), (0, 3, 1))
        run.tell("w", 1)
        self.assertEqual((run.stand(), run.at(run.steps())), (("waits", "v"), (0, 3, 2)))
        run.tell("v", 1)
        self.assertEqual(run.at(run.steps()), (0, 3, 0))
        self.assertEqual(run.at(0), (0, 0, 0))

    def test_no_step(self):
        run = run_of("(say (= 1))")
        for thing in anything() + (3, "1", 10 ** 15):
            if thing not in (0, 1) or isinstance(thing, bool):
                self.assert_refused(run, NoStep, (thing,), run.at, thing)
        self.assertEqual((run.at(1), run.at(2)), ((0, 0, 0), (1, 0, 0)))

    def test_behind_a_change_that_takes_records(self):
        run = run_of("(do (call go ((= 1)))) (do (ask w))", "(go (n) ((say n) (tell n)))")
        run.tell("w", 1)
        told = [run.at(step) for step in range(run.steps() + 1)]
        run.change(())
        self.assertEqual((run.gone(), [run.at(step) for step in range(run.steps() + 1)]), (0, told))
        run.change((("told", "w", 0, 2),))
        self.assertEqual([run.at(step) for step in range(run.steps() + 1)], told)
        run.change((("rows", "main", rows_of("(say (= 5))")),))
        self.assertEqual([run.at(step) for step in range(run.steps() + 1)], [(0, 0, 0), (0, 0, 0), (1, 0, 0)])


if __name__ == "__main__":
    unittest.main()
