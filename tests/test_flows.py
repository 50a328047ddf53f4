"""Plain runs: loops, tries, givers, waiting, and the bounds of steps and calls."""
import unittest

from everso.errors import TooDeep, TooLong
from everso.plains import Plain
from samples import comes_to, gone, program_of


def row(*worths):
    return ("row", worths)


def raised(word):
    return ("raised", word)


class Loops(unittest.TestCase):
    def test_while_and_if(self):
        plain = gone("""
            (let n (= 0))
            (while (less n (= 5)) ((let n (plus n (= 1))) (if (same n (= 3)) ((say (= 'three'))) ((say n)))))
            (if (= yes) () ((say (= 'no')))) (if (= no) ((say (= 'no'))) ())
        """)
        self.assertEqual(plain.sayings(), (1, 2, "three", 4, 5))

    def test_tests_are_truths(self):
        for test in ("(= 1)", "(= 0)", "(= none)", "(= '')", "(= [])", "(= [yes])"):
            self.assertEqual(gone(f"(if {test} () ())").stand(), raised("kind"), test)
            self.assertEqual(gone(f"(while {test} ((leave)))").stand(), raised("kind"), test)

    def test_each_goes_over_the_row_as_it_was(self):
        plain = gone("(let r (= [1 2 3])) (each x r ((let r (= [9])) (say x))) (say r) (say x)")
        self.assertEqual(plain.sayings(), (1, 2, 3, row(9), 3))
        self.assertEqual(gone("(each x (= []) ((say x))) (say x)").stand(), raised("lacks"))

    def test_each_of_what_is_no_row(self):
        for worth in ("(= 'abc')", "(= 3)", "(= none)", "(new box ())", "box"):
            self.assertEqual(gone(f"(each x {worth} ())", kinds="(box - ())").stand(), raised("kind"), worth)

    def test_leave_ends_the_nearest_loop(self):
        plain = gone("""
            (each x (= [1 2]) ((each y (= [5 6 7]) ((if (same y (= 6)) ((leave)) ()) (say y))) (say x)))
            (while (= yes) ((try ((leave)) - ((say (= 'last')))) (say (= 'no')))) (say (= 'end'))
        """)
        self.assertEqual(plain.sayings(), (5, 1, 5, 2, "last", "end"))

    def test_in_a_deed_its_own_names_go(self):
        plain = gone("(let x (= 0)) (say (call go ())) (say x)",
            "(go () ((each x (= [1 2 3]) ((if (same x (= 2)) ((tell x)) ())))))")
        self.assertEqual(plain.sayings(), (2, 0))


class Tries(unittest.TestCase):
    def test_caught_and_last(self):
        plain = gone("""
            (try ((say (= 1)) (raise (= 5)) (say (= 2))) (e ((say e))) ((say (= 'last'))))
            (try ((say (= 3))) (e ((say (= 'no')))) ((say (= 'last'))))
            (try ((do (over (= 1) (= 0)))) (e ()) ()) (say e)
            (try () - ((say (= 'done'))))
        """)
        self.assertEqual(plain.sayings(), (1, 5, "last", 3, "last", "nought", "done"))

    def test_what_is_raised_may_be_any_worth(self):
        self.assertEqual(gone("(try ((raise (new box ()))) (e ((let t e))) ())", kinds="(box - ())").cell("main", "t"),
            ("thing", 0))
        self.assertEqual(gone("(try ((raise (= none))) (e ((say e))) ())").sayings(), (None,))

    def test_without_caught_it_goes_on_behind_last(self):
        plain = gone("(try ((try ((raise (= 5))) - ((say (= 'last'))))) (e ((say e))) ())")
        self.assertEqual(plain.sayings(), ("last", 5))

    def test_what_is_raised_in_caught_goes_on_behind_last(self):
        plain = gone("(try ((try ((raise (= 5))) (e ((raise (plus e (= 1))))) ((say (= 'last'))))) (e ((say e))) ())")
        self.assertEqual(plain.sayings(), ("last", 6))

    def test_an_end_of_last_stands_in_the_place_of_what_came(self):
        deeds = """
            (one () ((try ((tell (= 1))) - ((tell (= 2))))))
            (two () ((try ((raise (= 1))) - ((tell (= 3))))))
            (three () ((try ((tell (= 1))) - ((raise (= 4))))))
            (four () ((while (= yes) ((try ((tell (= 1))) - ((leave))))) (tell (= 5))))
            (five () ((while (= yes) ((try ((raise (= 1))) - ((leave))))) (tell (= 6))))
            (six () ((try ((raise (= 1))) (e ((tell (= 7)))) ((say (= 'six'))))))
            (seven () ((try ((raise (= 1))) (e ((raise (= 2)))) ((tell (= 8))))))
            (eight () ((try ((tell (= 9))) - ((say (= 'eight'))))))
        """
        for name, worth in (
            ("one", 2), ("two", 3), ("three", raised(4)), ("four", 5), ("five", 6), ("six", 7), ("seven", 8),
            ("eight", 9),
        ):
            self.assertEqual(comes_to(f"(call {name} ())", deeds), worth, name)
        self.assertEqual(gone("(do (call six ())) (do (call eight ()))", deeds).sayings(), ("six", "eight"))

    def test_raised_words_are_texts(self):
        self.assertEqual(gone("(try ((do (not (= 1)))) (e ((say (join e (= '!'))))) ())").sayings(), ("kind!",))

    def test_what_is_raised_in_calls_is_caught_around_them(self):
        deeds = "(out () ((do (call inn ())) (say (= 'no')))) (inn () ((raise (= 'up'))))"
        self.assertEqual(gone("(try ((do (call out ()))) (e ((say e))) ())", deeds).sayings(), ("up",))


class Givers(unittest.TestCase):
    def says(self, rows, deeds, kinds="", **more):
        plain = gone(rows, deeds, kinds, **more)
        return plain.sayings() if plain.stand() == ("ended",) else plain.sayings() + (plain.stand(),)

    def test_a_call_makes_a_room_and_a_giver_and_goes_nothing(self):
        plain = gone("(let g (call go ((= 5))))", "(go (a) ((say a) (give b a)))")
        self.assertEqual((plain.sayings(), plain.cell("main", "g")), ((), ("thing", 1)))
        self.assertEqual([plain.thing(0), plain.thing(1)], [("room",), ("giver",)])
        self.assertEqual(plain.there(("field", 0, "a")), (5,))
        self.assertEqual(plain.there(("frame", 1)), (("new",),))

    def test_what_it_gives_and_what_it_is_given(self):
        found = self.says(
            "(let g (call go ((= 1)))) (each x (= [10 20 30 40]) ((say (wake g x))))",
            "(go (a) ((give b (plus a (= 1))) (say b) (give b (plus b (= 1))) (say b) (tell (= 'end'))))",
        )
        self.assertEqual(found, (row(True, 2), 20, row(True, 21), 30, row(False, "end"), raised("ended")))

    def test_one_that_tells_nothing_ends_with_none(self):
        self.assertEqual(
            self.says("(let g (call go ())) (say (wake g (= 1))) (say (wake g (= 2)))", "(go () ((give b (= 5))))"),
            (row(True, 5), row(False, None)),
        )

    def test_what_it_raises_is_raised_by_the_waking_and_it_has_ended(self):
        found = self.says("""
            (let g (call go ())) (say (wake g (= 1))) (try ((do (wake g (= 2)))) (e ((say e))) ())
            (try ((do (wake g (= 3)))) (e ((say e))) ())
        """, "(go () ((give b (= 5)) (raise b)))")
        self.assertEqual(found, (row(True, 5), 2, "ended"))

    def test_what_is_caught_in_it_isnt_raised(self):
        found = self.says(
            "(let g (call go ())) (do (wake g (= 1))) (say (wake g (= 'up')))",
            "(go () ((try ((give b (= 5)) (raise b)) (e ((give b e))) ())))",
        )
        self.assertEqual(found, (row(True, "up"),))

    def test_runs(self):
        deeds = "(go () ((give b (= 5)) (try ((do (wake g (= 1)))) (e ((say e))) ()) (do (wake (far main g) (= 1)))))"
        self.assertEqual(
            self.says("""
                (let g (call go ())) (do (wake g (= 1)))
                (try ((do (wake g (= 2)))) (e ((say e))) ()) (do (wake g (= 3)))
            """, deeds),
            ("runs", "runs", raised("ended")),
        )

    def test_kind_of_what_is_no_giver(self):
        for worth in ("(= 1)", "(deed () ())", "(new box ())", "box", "go", "(= none)", "(= ['thing' 0])"):
            self.assertEqual(self.says(f"(do (wake {worth} (= 1)))", "(go () ((give b (= 5))))", "(box - ())"),
                (raised("kind"),))

    def test_gives_in_loops(self):
        found = self.says("""
            (let g (call go ())) (let on (= yes))
            (while on ((let r (wake g (= 0))) (let on (at r (= 0))) (say (at r (= 1)))))
        """, """
            (go () ((each x (= [1 2]) (
              (let y (= 0)) (while (less y (= 2)) ((let y (plus y (= 1))) (give b (row (x y)))))
              (if (same x (= 2)) ((give b (= 'two'))) ()))) (tell (= 'end'))))
        """)
        self.assertEqual(found, (row(1, 1), row(1, 2), row(2, 1), row(2, 2), "two", "end"))

    def test_gives_in_tries_and_lasts(self):
        deeds = """
            (go () (
              (each x (= [1 2]) (
                (try ((give b x) (raise (= 'a'))) (e ((give b e) (raise (= 'b')))) ((give b (= 'l')) (leave)))
              ))
              (try ((tell (= 5))) - ((give b (= 'm')))) (say (= 'no'))))
        """
        found = self.says("(let g (call go ())) (each n (= [1 2 3 4 5]) ((say (wake g n))))", deeds)
        self.assertEqual(found, (row(True, 1), row(True, "a"), row(True, "l"), row(True, "m"), row(False, 5)))

    def frames(self, deed, wakes):
        """The frames of a giver behind so many wakings."""
        found = []
        for many in range(wakes + 1):
            plain = gone("(let g (call go ()))" + "(do (wake g (= 7)))" * many, f"(go () ({deed}))")
            found.append(plain.there(("frame", 1))[0])
        return found

    def test_frames(self):
        self.assertEqual(
            self.frames("(say (= 1)) (give a (= 2)) (give a (= 3))", 3),
            [("new",), ("gave", ((1,),), ()), ("gave", ((2,),), ()), ("ended",)],
        )
        self.assertEqual(
            self.frames("(if (= yes) ((give a (= 1))) ()) (if (= no) () ((say (= 0)) (give a (= 2))))", 2)[1:],
            [("gave", ((0, 0), (0,)), ()), ("gave", ((1, 1), (1,)), ())],
        )
        self.assertEqual(
            self.frames("(while (= yes) ((give a (= 1))))", 2)[1:], [("gave", ((0, 0), (0,)), ())] * 2,
        )
        self.assertEqual(
            self.frames("(each x (= [5 ['a']]) ((say x) (each y (= [6]) ((give a (= 1))))))", 3)[1:],
            [
                ("gave", ((0, 0), (1, 0), (0,)), (((5, row("a")), 0), ((6,), 0))),
                ("gave", ((0, 0), (1, 0), (0,)), (((5, row("a")), 1), ((6,), 0))),
                ("ended",),
            ],
        )
        self.assertEqual(
            self.frames("(try ((give a (= 1)) (raise a)) (e ((give a (= 2)))) ((give a (= 3))))", 4)[1:],
            [
                ("gave", ((0, 0), (0,)), ()), ("gave", ((0, 1), (0,)), ()), ("gave", ((0, 2), (0,)), ((("on",),),)),
                ("ended",),
            ],
        )

    def test_ends_that_lasts_hold(self):
        for body, held in (
            ("(tell (= 5))", ("told", 5)), ("(raise (= 6))", ("raised", 6)), ("(say (= 1))", ("on",)),
            ("(leave)", ("left",)),
        ):
            frames = self.frames(f"(each x (= [1]) ((try ({body}) - ((say (= 0)) (each y (= [2]) ((give a y)))))))", 1)
            self.assertEqual(frames[1], ("gave", ((0, 0), (0, 2), (1, 0), (0,)), (((1,), 0), (held,), ((2,), 0))), body)

    def test_ends_that_lasts_held_come_behind_them(self):
        deeds = "(go () ((while (= yes) ((try ({}) - ((give a (= 1)))) (tell (= 'on')))) (tell (= 'left'))))"
        for body, found in (
            ("(tell (= 5))", row(False, 5)), ("(raise (= 6))", raised(6)), ("(say (= 'x'))", row(False, "on")),
            ("(leave)", row(False, "left")),
        ):
            self.assertEqual(comes_to("(wake g (= 1))", deeds.format(body),
                ahead="(let g (call go ())) (do (wake g (= 1)))"), found)

    def test_it_goes_on_in_loops_within_tries_and_lasts(self):
        loop = "(each x (= [1 2]) ((while (= yes) ((try ((give y x) (leave)) - ())))))"
        for deed, found in (
            (f"(try ({loop}) - ())", [1, 2, None]),
            (f"(try ((raise (= 0))) (e ({loop} (each z (= [5]) ((give y z))))) ())", [1, 2, 5, None]),
            (f"""(try () - ({loop} (each z (= [5]) ((try () - ((each y (= [6 7]) ((give y (row (z y)))))))))))
                 (give y (= 8))""",
             [1, 2, row(5, 6), row(5, 7), 8, None]),
            (f"(each v (= [1 2]) ((try ((tell v)) - ({loop} (each z (= [5]) ((give y v)))))))", [1, 2, 1, 1]),
        ):
            wakes = "(say (at (wake g (= 9)) (= 1)))" * len(found)
            self.assertEqual(list(self.says("(let g (call go ()))" + wakes, f"(go () ({deed}))")), found, deed)

    def test_the_first_worth_is_unused_the_others_are_the_gives_names(self):
        plain = gone("(let g (call go ())) (do (wake g (= 1))) (do (wake g (= 2))) (do (wake g (= 3)))",
                     "(go () ((give a (= 0)) (give b a)))")
        self.assertEqual((plain.there(("field", 0, "a")), plain.there(("field", 0, "b"))), ((2,), (3,)))

    def test_a_row_that_is_great_behind_a_waking(self):
        ahead = "(let deep (= [[[[[[[[]]]]]]]]))"
        deeds = "(go () ((give a deep) (tell deep))) (flat () ((give a (= [[[[[[[]]]]]]])) (tell (= 1))))"
        rows = ahead + "(let g (call go ())) (try ((do (wake g (= 1)))) (e ((say e))) ())"
        plain = gone(rows, deeds)
        self.assertEqual((plain.sayings(), plain.there(("frame", 1))), (("great",), (("gave", ((0,),), ()),)))
        plain = gone(rows + "(try ((do (wake g (= 2)))) (e ((say e))) ())", deeds)
        self.assertEqual((plain.sayings(), plain.there(("frame", 1))), (("great", "great"), (("ended",),)))
        self.assertEqual(gone("(let g (call flat ())) (do (wake g (= 1)))", deeds).stand(), ("ended",))

    def test_givers_wake_givers(self):
        deeds = """
            (inner (n) ((while (less n (= 3)) ((give b n) (let n (plus n (= 1)))))))
            (outer () ((let g (call inner ((= 0)))) (let r (wake g (= 0)))
              (while (at r (= 0)) ((give b (times (at r (= 1)) (= 10))) (let r (wake g (= 0)))))))
        """
        found = self.says("(let g (call outer ())) (each x (= [1 2 3 4]) ((say (wake g x))))", deeds)
        self.assertEqual(found, (row(True, 0), row(True, 10), row(True, 20), row(False, None)))

    def test_closures_and_kinds_deeds_may_be_givers(self):
        rows = """
            (let t (new box ())) (let g (send t go ((= 4)))) (say (wake g (= 0)))
            (let f (deed (a) ((give x a)))) (say (wake (call f ((= 5))) (= 0)))
        """
        found = self.says(rows, "", "(box - ((go (self n) ((put self n n) (give x (field self n))))))")
        self.assertEqual(found, (row(True, 4), row(True, 5)))

    def test_a_give_of_a_deed_within_makes_no_giver_of_the_one_around(self):
        self.assertEqual(comes_to("(call go ())", "(go () ((let f (deed () ((give x (= 1))))) (tell (= 5))))"), 5)


class Waiting(unittest.TestCase):
    def test_it_waits_in_whatever_try(self):
        plain = gone("(try ((try ((do (ask w))) (e ((say (= 1)))) ((say (= 2))))) (e ((say (= 3)))) ((say (= 4))))")
        self.assertEqual((plain.stand(), plain.sayings()), (("waits", "w"), ()))

    def test_worths_come_in_their_order(self):
        plain = gone("(say (ask a)) (say (ask b)) (say (ask a)) (say (ask b))", wells=(("a", (1, 2)), ("b", (True,))))
        self.assertEqual((plain.sayings(), plain.stand()), ((1, True, 2), ("waits", "b")))
        self.assertEqual((plain.asked("a"), plain.asked("b")), (2, 1))

    def test_amid_a_waking(self):
        plain = gone("(let g (call go ())) (do (wake g (= 1)))", "(go () ((say (= 1)) (give a (ask w))))")
        self.assertEqual((plain.stand(), plain.there(("frame", 1))), (("waits", "w"), (("going",),)))


class Bounds(unittest.TestCase):
    # Of each row text how many steps it makes, given deeds that make some themselves.
    STEPS = (
        ("(say (= 1))", 2), ("(let a (= 1))", 2), ("(do (row ((= 1) (= 2))))", 4), ("(do (plus (= 1) (= 2)))", 4),
        ("(do (deed () ((say (= 1)))))", 2), ("(if (= yes) ((say (= 1))) ())", 4), ("(if (= yes) () ((say (= 1))))", 2),
        ("(while (= no) ((say (= 1))))", 3), ("(each x (= []) ((say x)))", 2), ("(each x (= [1 2]) ((say x)))", 8),
        ("(each x (= [1 2]) ())", 4), ("(while (= yes) ((leave)))", 4), ("(try () - ())", 1),
        ("(try ((raise (= 1))) (e ()) ())", 3),
        ("(try ((raise (= 1))) (e ((say e))) ((say (= 1))))", 7), ("(do (call none ()))", 3),
        ("(do (call one ((= 1))))", 6),
        ("(do (call gives ()))", 3), ("(do (wake (call gives ()) (= 1)))", 7), ("(do (new box ()))", 3),
        ("(do (new tin ((= 1))))", 6), ("(put (new box ()) a (= 1))", 4), ("(say (has (new box ()) a))", 4),
        ("(let n (= 0)) (while (less n (= 2)) ((let n (plus n (= 1)))))", 2 + 1 + 4 + 4 + 4 + 4 + 4),
        ("(let a (= 1)) (do a)", 4), ("(let a (= 1)) (do (far main a))", 4), ("(do (fields (new box ())))", 4),
        ("(do (field (new box ()) a))", 4), ("(out (new box ()) a)", 3), ("(do (ask w))", 2), ("(raise (= 1))", 2),
        ("(do (send (new tin ((= 1))) make ((= 2))))", 10), ("(do (not (= yes)))", 3), ("(do (at (= [1]) (= 0)))", 4),
        ("(do (call (call made ((= 1))) ()))", 9), ("(do (new box ((= 1))))", 4), ("(do (call one ()))", 3),
    )
    DEEDS = """
        (gives () ((give x (= 1)))) (made (n) ((tell (deed () ((tell n)))))) (none () ()) (one (n) ((tell n)))
    """
    KINDS = "(box - ()) (tin - ((make (self n) ((tell n)))))"

    def test_steps(self):
        for text, steps in self.STEPS:
            self.assertEqual(gone(text, self.DEEDS, self.KINDS).steps(), steps, text)
        self.assertEqual(gone().steps(), 0)

    def test_too_long_at_just_the_bound(self):
        for text, steps in self.STEPS:
            self.assertEqual(gone(text, self.DEEDS, self.KINDS, most=steps).steps(), steps, text)
            if steps > 1:
                with self.assertRaises(TooLong) as caught:
                    gone(text, self.DEEDS, self.KINDS, most=steps - 1)
                self.assertEqual(caught.exception.most, steps - 1)

    def test_without_bounds_those_of_the_package_hold(self):
        loop = "(let n (= 0)) (while (less n (= {})) ((let n (plus n (= 1)))))"
        self.assertLessEqual(gone(loop.format(248)).steps(), 2000)
        with self.assertRaises(TooLong) as caught:
            gone("(while (= yes) ())")
        self.assertEqual(caught.exception.most, 2000)
        with self.assertRaises(TooDeep) as caught:
            gone("(do (call go ()))", "(go () ((do (call go ()))))")
        self.assertEqual(caught.exception.deep, 10)

    def test_no_try_catches_them_and_no_last_is_gone(self):
        # A last would make steps of its own, and so be too long in a tell, in the place of what came.
        with self.assertRaises(TooLong):
            gone("(while (= yes) ((try ((while (= yes) ())) (e ((leave))) ((leave)))))", most=50)
        with self.assertRaises(TooDeep):
            gone("(try ((do (call go ()))) (e ((say e))) ((do (over (= 1) (= 0)))))", "(go () ((do (call go ()))))",
                deep=5)

    def deep_ones(self):
        down = "(down (n) ((if (less (= 0) n) ((tell (call down ((minus n (= 1)))))) ())))"
        wakes = "(wakes (n) ((if (less (= 0) n) ((do (wake (call wakes ((minus n (= 1)))) (= 0)))) ()) (give x n)))"
        sends = "(box - ((make (self n) ((if (less (= 0) n) ((do (send self make ((minus n (= 1)))))) ())))))"
        news = "(tin - ((make (self n) ((if (less (= 0) n) ((do (new tin ((minus n (= 1)))))) ())))))"
        yield "(do (call down ((= 3))))", 4, down, ""
        yield "(do (wake (call wakes ((= 3))) (= 0)))", 4, wakes, ""
        yield "(do (new box ((= 3))))", 4, "", sends
        yield "(do (new tin ((= 3))))", 4, "", news
        yield "(do (call gives ())) (say (= 1))", 0, self.DEEDS, ""

    def test_too_deep_at_just_the_bound(self):
        for rows, deep, deeds, kinds in self.deep_ones():
            self.assertEqual(gone(rows, deeds, kinds, deep=deep).stand(), ("ended",), rows)
            if deep:
                with self.assertRaises(TooDeep) as caught:
                    gone(rows, deeds, kinds, deep=deep - 1)
                self.assertEqual(caught.exception.deep, deep - 1)

    def test_calls_behind_one_another_dont_stand_upon_one_another(self):
        self.assertEqual(gone("(do (call none ()))" * 5, self.DEEDS, deep=1).stand(), ("ended",))

    def test_too_deep_behind_many_runs_and_ended(self):
        for rows, word in (
            ("(do (call one ()))", "many"), ("(do (new box ((= 1))))", "many"), ("(do (call gives ((= 1))))", "many"),
            ("(do (call (= 1) ()))", "kind"), ("(do (wake (= 1) (= 1)))", "kind"),
        ):
            self.assertEqual(gone(rows, self.DEEDS, self.KINDS, deep=0).stand(), raised(word), rows)
        again = "(let g (call go ())) (do (wake g (= 1)))"
        self.assertEqual(gone(again, "(go () ((do (wake g (= 1))) (give x (= 1))))", deep=1).stand(), raised("runs"))
        ended = "(over () ((let h (call gives ())) (do (wake h (= 1))) (do (wake h (= 1))) (keep h h)))"
        plain = gone("(do (call over ())) (do (call last ()))",
            ended + "(gives () ((give x (= 1)))) (last () ((do (wake (far main h) (= 1)))))", deep=2)
        self.assertEqual(plain.stand(), raised("ended"))

    def test_too_deep_ahead_of_the_room(self):
        # Were the room made, its thing would be there where the run is gone with a deeper bound.
        for rows, things in (("(do (call none ()))", 1), ("(do (call gives ()))", 2)):
            self.assertEqual(gone(rows, self.DEEDS, deep=1).things(), things)
        with self.assertRaises(TooDeep):
            gone("(do (call none ()))", self.DEEDS, deep=0)
        with self.assertRaises(TooDeep):
            gone("(do (wake (call gives ()) (= 1)))", self.DEEDS, deep=0)

    def test_too_long_or_too_deep_as_they_come(self):
        # The call comes with the third step: the fourth is that in its rows.
        with self.assertRaises(TooDeep):
            gone("(do (call one ((= 1))))", self.DEEDS, deep=0, most=4)
        with self.assertRaises(TooLong):
            gone("(do (call one ((= 1))))", self.DEEDS, deep=0, most=3)

    def test_eighty_within_one_another(self):
        # Each of twelve calls stands in tries, ifs, loops and expressions of the one beneath.
        inner = "(call go ((minus n (= 1))))"
        for _ in range(3):
            inner = f"(row ({inner}))"
        rows = f"(do {inner})"
        for frame in ("(try ({}) - ())", "(if (= yes) ({}) ())", "(each x (= [1]) ({}))"):
            rows = frame.format(rows)
        plain = gone("(do (call go ((= 11))))", f"(go (n) ((if (less (= 0) n) ({rows}) ((say n)))))", most=5000,
            deep=12)
        self.assertEqual((plain.sayings(), plain.stand()), ((0,), ("ended",)))

    def test_five_thousand_steps(self):
        plain = gone("(let n (= 0)) (while (less n (= 624)) ((let n (plus n (= 1)))))", most=5000)
        self.assertEqual((plain.steps(), plain.cell("main", "n")), (4999, 624))

    def test_a_program_without_rows(self):
        plain = Plain(program_of(), (), most=1, deep=0)
        self.assertEqual((plain.steps(), plain.stand(), plain.cells("main")), (0, ("ended",), ()))


if __name__ == "__main__":
    unittest.main()
