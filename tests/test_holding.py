"""Checkers: by which map a record holds on what stands in a plain run."""
import unittest

from everso.holding import held_by
from everso.plains import Plain
from everso.runs import Run
from samples import gone, program_of

KINDS = "(box - ((make (self a) ((put self a a)))))"


def records_of(*texts, told=(), **more):
    run = Run(program_of(*texts), **more)
    for well, worth in told:
        run.tell(well, worth)
    return [record for _, record in run.records()]


def of_word(word, *texts, **more):
    return [record for record in records_of(*texts, **more) if record[0][0] == word]


def plain_of(*texts, **more):
    return gone(*texts, **more)


class Held(unittest.TestCase):
    CELLS = "(let a (= 1)) (let b (= [yes 2]))"
    READS = "(if (= yes) ((do (row (a b c)))) ())"

    def test_what_was_read(self):
        record, = of_word("rows", self.CELLS + self.READS)
        for rows, held in (
            (self.CELLS, ()), (self.CELLS + "(let z (= 1))", ()), ("(let b (= [yes 2])) (let a (= 1))", ()),
            ("(let a (= 1))", None),
            (self.CELLS + "(let a (= 2))", None), (self.CELLS + "(let a (= yes))", None),
            (self.CELLS + "(let b (= [1 2]))", None),
            (self.CELLS + "(let b (= [yes 2 3]))", None), (self.CELLS + "(let c (= none))", None), ("", None),
            (self.CELLS + "(let b (= ['yes' 2]))", None), (self.CELLS + "(let b (= 2))", None),
            (self.CELLS + "(let b (= none))", None), (self.CELLS + "(let b (= 'row'))", None),
            (self.CELLS + "(let b (deed () ()))", None), (self.CELLS + "(let a (= [1]))", None),
            (self.CELLS + "(let a (deed () ()))", None),
        ):
            self.assertEqual(held_by(record, plain_of(rows), (None, None)), held, rows)

    def test_what_was_handed(self):
        record, = of_word("deed", "(do (call go ((= 1) (= [yes]))))", "(go (a b) ((tell a)))")
        plain = plain_of("(let t (new box ((= 1))))", "", KINDS)
        for handed, held in (
            ((None, (1, ("row", (True,)))), ()), ((None, (2, ("row", (True,)))), None),
            ((None, (True, ("row", (True,)))), None),
            ((None, (1, ("row", (1,)))), None), ((None, (1,)), None), ((None, (1, ("row", (True,)), 1)), None),
            ((0, (1, ("row", (True,)))), None),
            ((None, (("thing", 0), ("row", (True,)))), None), ((None, ()), None),
        ):
            self.assertEqual(held_by(record, plain, handed), held, handed)

    def test_the_map_by_rising_pairs(self):
        record, = of_word("deed", "(let t (new box ((= 1)))) (let u (new box (t))) (do (call go (u t)))",
                          "(go (u t) ((put t b (field u a)) (tell (new box ((= 1))))))", KINDS)[-2:-1]
        self.assertEqual(record[1], (None, (("thing", 2), ("thing", 0))))
        ahead = "(let p (new box ((= 1)))) (let q (new box ((= 2)))) (let r (new box (p)))"
        plain = plain_of(ahead, "", KINDS)
        self.assertEqual([plain.thing(k)[0] for k in (0, 2, 4)], [("kind", "main", "box")] * 3)
        self.assertEqual(held_by(record, plain, (None, (("thing", 4), ("thing", 0)))), ((0, 0), (2, 4)))
        self.assertIsNone(held_by(record, plain, (None, (("thing", 4), ("thing", 2)))))
        self.assertIsNone(held_by(record, plain, (None, (("thing", 0), ("thing", 4)))))
        # The field of u is one thing more that is led, where t isn't the one in it.
        record, = of_word("deed", "(let t (new box ((= 1)))) (let u (new box (t))) (do (call go (u)))",
            "(go (u) ((tell (field u a))))", KINDS)[-1:]
        self.assertEqual(held_by(record, plain, (None, (("thing", 4),))), ((0, 0), (2, 4)))
        self.assertIsNone(held_by(record, plain, (None, (("thing", 2),))))

    def test_what_it_makes_isnt_in_the_map(self):
        record, = of_word("deed", "(do (new box ((= 1)))) (do (call go ()))", "(go () ((tell (new box ((= 1))))))",
            KINDS)[1:2]
        self.assertEqual([effect[1] for effect in record[3] if effect[0] == "make"], [2, 3, 4])
        self.assertIsNone(held_by(record, plain_of("", "", "(box - ())"), (None, ())))
        self.assertEqual(held_by(record, plain_of("(do (deed () ()))", "", KINDS), (None, ())), ())

    def test_two_that_were_one_and_one_that_was_two(self):
        deeds = "(go (t u) ((do t)))"
        one, = of_word("deed", "(let t (new box ())) (do (call go (t t)))", deeds, "(box - ())")
        two, = of_word("deed", "(do (call go ((new box ()) (new box ()))))", deeds, "(box - ())")
        plain = plain_of("(do (new box ())) (do (new box ()))", deeds, "(box - ())")
        for record, worths, held in (
            (one, (0, 0), ((0, 0),)), (one, (1, 1), ((0, 1),)), (one, (0, 1), None), (two, (0, 1), ((0, 0), (1, 1))),
            (two, (1, 0), ((0, 1), (1, 0))),
            (two, (1, 1), None),
        ):
            self.assertEqual(held_by(record, plain, (None, tuple(("thing", k) for k in worths))), held)

    def test_a_thing_is_none_by_the_text_thing(self):
        record, = of_word("deed", "(do (call go ((= ['thing' 5]))))", "(go (r) ())")
        plain = plain_of("")
        self.assertEqual(held_by(record, plain, (None, (("row", ("thing", 5)),))), ())
        self.assertIsNone(held_by(record, plain, (None, (("row", ("thing", 6)),))))
        self.assertIsNone(held_by(record, plain, (None, (("thing", 5),))))

    def test_rooms_and_closures(self):
        deeds = "(go (n) ((tell (deed (m) ((tell (plus n m)))))))"
        record = of_word("deed", "(let f (call go ((= 5)))) (do (call f ((= 1))))", deeds)[-1]
        self.assertEqual(record[1], (0, (1,)))
        plain = plain_of("(do (call go ((= 4)))) (let f (call go ((= 5))))", deeds)
        self.assertEqual(held_by(record, plain, (2, (1,))), ((0, 2),))
        self.assertIsNone(held_by(record, plain, (0, (1,))))
        self.assertIsNone(held_by(record, plain, (None, (1,))))
        caller = of_word("rows", "(let f (call go ((= 5)))) (if (= yes) ((do (call f ((= 1))))) ())", deeds)[-1]
        self.assertEqual(held_by(caller, plain, (None, None)), ((0, 2), (1, 3)))

    def test_givers(self):
        deeds = "(go (r) ((each x r ((give y x)))))"
        rows = "(let t (new box ())) (let g (call go ((row ((= 1) t))))) (do (wake g (= 0))) (do (wake g (= 7)))"
        first, second = of_word("wake", rows, deeds, "(box - ())")
        begun = "(let t (new box ())) (let g (call go ((row ((= 1) t)))))"
        plain = plain_of(f"(do (new box ())) {begun} (do (wake g (= 0)))", deeds, "(box - ())")
        self.assertEqual(held_by(second, plain, (3, 7)), ((0, 1), (1, 2), (2, 3)))
        self.assertIsNone(held_by(second, plain, (3, 8)))
        self.assertIsNone(held_by(first, plain, (3, 0)))
        new = plain_of(begun, deeds, "(box - ())")
        self.assertEqual(held_by(first, new, (2, 0)), ((0, 0), (1, 1), (2, 2)))
        self.assertIsNone(held_by(second, new, (2, 7)))
        other = plain_of("(let g (call go ((= [1 2])))) (do (wake g (= 0)))", deeds)
        self.assertIsNone(held_by(second, other, (1, 7)))

    def test_what_the_frames_of_givers_hold(self):
        deeds = """
            (go (k a) ((each x (= [1 1]) ((try (
                (if (same k (= 0)) ((tell a)) ()) (if (same k (= 1)) ((raise a)) ()) (if (same k (= 2)) ((leave)) ())
            ) - ((give y x) (give y x)))))))
        """
        begun = "(let t (new box ())) (let u (new box ())) (let g (call go ((= {}) {})))"

        def second(k, worth):
            rows = begun.format(k, worth) + "(do (wake g (= 0))) (do (wake g (= 0)))"
            return of_word("wake", rows, deeds, "(box - ())")[1]

        def now(k, worth, wakes=1):
            return plain_of(begun.format(k, worth) + "(do (wake g (= 0)))" * wakes, deeds, "(box - ())")
        rooms = ((2, 2), (3, 3))
        for one, other, held in (
            ((0, "(= 5)"), (0, "(= 5)"), rooms), ((0, "(= 5)"), (0, "(= 6)"), None),
            ((0, "(= 1)"), (0, "(= yes)"), None),
            ((0, "(= 5)"), (1, "(= 5)"), None), ((1, "(= 5)"), (0, "(= 5)"), None), ((1, "(= 5)"), (1, "(= 5)"), rooms),
            ((0, "t"), (0, "u"), ((0, 1),) + rooms), ((0, "u"), (0, "t"), ((1, 0),) + rooms),
            ((0, "t"), (0, "t"), ((0, 0),) + rooms),
            ((1, "(row (t u t))"), (1, "(row (u t u))"), ((0, 1), (1, 0)) + rooms),
            ((1, "(row (t u t))"), (1, "(row (u t t))"), None),
            ((1, "(row (t u t))"), (1, "(row (u t))"), None), ((0, "t"), (0, "(= 0)"), None),
            ((0, "(= 0)"), (0, "t"), None),
            ((0, "t"), (0, "(row (t))"), None), ((0, "(row (t))"), (0, "t"), None), ((0, "box"), (0, "(= none)"), None),
            ((2, "(= 5)"), (2, "(= 6)"), rooms), ((2, "(= 5)"), (3, "(= 5)"), None),
            ((3, "(= 5)"), (3, "(= 6)"), rooms),
            ((3, "(= 5)"), (0, "(= none)"), None),
        ):
            self.assertEqual(held_by(second(*one), now(*other), (3, 0)), held, (one, other))
        # The same rows at another spot, in another turn.
        self.assertIsNone(held_by(second(3, "(= 5)"), now(3, "(= 5)", 2), (3, 0)))
        self.assertIsNone(held_by(second(3, "(= 5)"), now(3, "(= 5)", 3), (3, 0)))
        self.assertIsNone(held_by(second(3, "(= 5)"), now(3, "(= 5)", 0), (3, 0)))

    def test_a_room_matches_a_room_alone(self):
        inner, = of_word("rows", "(do (call go ()))", "(go () ((if (= yes) ((say (= 1))) ())))")
        outer, = of_word("rows", "(if (= yes) ((say (= 1))) ())")
        self.assertEqual((inner[0], inner[1], outer[1]), (outer[0], (0, None), (None, None)))
        plain = plain_of("(do (call go ()))", "(go () ())")
        for record, room, held in ((inner, 0, ((0, 0),)), (inner, None, None), (outer, 0, None), (outer, None, ())):
            self.assertEqual(held_by(record, plain, (room, None)), held)

    def test_rooms_around_rooms(self):
        deeds = "(go (n) ((tell (deed () ((tell (deed () ((tell n)))))))))"
        record = of_word("deed", "(do (call (call (call go ((= 5))) ()) ()))", deeds)[-1]
        self.assertEqual(record[2], ((("up", 2), (0,)), (("field", 0, "n"), (5,))))
        plain = plain_of("(let f (call go ((= 5)))) (let g (call f ())) (let h (call go ((= 6)))) (let i (call h ()))",
            deeds)
        found = [held_by(record, plain, (k, ())) for k in range(plain.things())]
        self.assertEqual(found, [None, None, ((0, 0), (2, 2)), None, None, None, None, None])
        self.assertIsNone(held_by(record, plain, (None, ())))

    def test_where_nothing_is_there(self):
        deeds = "(go (r) ((each x r ((give y x)))))"
        first, second = of_word("wake", "(let g (call go ((= [1])))) (do (wake g (= 0))) (do (wake g (= 7)))", deeds)
        plain = plain_of("(let t (new box ())) (let f (deed () ()))", deeds, "(box - ())")
        for k in (0, 1, 2, 10 ** 15):
            self.assertIsNone(held_by(first, plain, (k, 0)))
            self.assertIsNone(held_by(second, plain, (k, 7)))
        record = of_word("deed", "(let f (call (deed (n) ((tell (deed () ((tell n)))))) ((= 5)))) (do (call f ()))")[-1]
        for k in (0, 1, 2):
            self.assertIsNone(held_by(record, plain, (k, ())))

    def test_wells(self):
        record, = of_word("rows", "(if (= yes) ((say (ask w))) ())", told=(("w", 5),))
        for wells, held in (
            ((), None), ((("w", (5,)),), ()), ((("w", (6,)),), None), ((("w", (5, 6)),), ()), ((("v", (5,)),), None),
            ((("w", ()),), None),
        ):
            self.assertEqual(held_by(record, Plain(program_of("(say (= 1))"), wells), (None, None)), held)
        self.assertIsNone(held_by(record, Plain(program_of("(do (ask w))"), (("w", (5, 5)),)), (None, None)))

    def test_deeds_and_chains(self):
        record, = of_word("rows", "(if (= yes) ((do (call go ())) (do (new box ((= 1))))) ())", "(go () ())",
            KINDS)[-1:]
        self.assertEqual(held_by(record, plain_of("", "(go () ()) (no () ())", KINDS), (None, None)), ())
        self.assertIsNone(held_by(record, plain_of("", "(go () ((do (= 1))))", KINDS), (None, None)))
        self.assertIsNone(held_by(record, plain_of("", "(go () ())", "(box - ())"), (None, None)))
        above = KINDS.replace("box", "cup") + "(box main:cup ())"
        self.assertEqual(held_by(record, plain_of("", "(go () ())", above), (None, None)), ())
        self.assertIsNone(held_by(record, plain_of("(let go (= 1))", "", KINDS), (None, None)))

    def test_steps_and_deep_by_the_plains_bounds(self):
        record, = of_word("deed", "(do (call go ()))", "(go () ((do (= 1)) (do (= 2))))")
        self.assertEqual(record[5:], (4, 1))
        rows = "(do (= 5))"
        for most, deep, held in ((6, 1, ()), (5, 1, None), (7, 12, ()), (2, 1, None), (6, 0, None), (5000, 0, None)):
            self.assertEqual(held_by(record, plain_of(rows, most=most, deep=deep), (None, ())), held, (most, deep))

    def test_what_stands_counts_amid_which_it_waits(self):
        record, = of_word("deed", "(do (call go ()))", "(go () ())")
        deeds = "(waits () ((do (ask w)))) (more () ((do (call waits ()))))"
        for rows, deep, held in (
            ("(do (ask w))", 1, ()), ("(do (ask w))", 0, None), ("(do (call waits ()))", 2, ()),
            ("(do (call waits ()))", 1, None),
            ("(do (call more ()))", 3, ()), ("(do (call more ()))", 2, None),
        ):
            self.assertEqual(held_by(record, plain_of(rows, deeds, deep=deep), (None, ())), held, (rows, deep))

    def test_of_each_sort_of_stretch(self):
        rows = "(let a (= 1)) (try ((raise a)) (e ((do (row (e a))))) ()) (each x (= [5]) ((do (row (x a)))))"
        found = {record[0][0]: record for record in records_of(rows)}
        plain = plain_of("(let a (= 1))")
        other = plain_of("(let a (= 2))")
        for word, handed in (("rows", (None, None)), ("caught", (None, 1)), ("turn", (None, 5))):
            self.assertEqual(held_by(found[word], plain, handed), (), word)
            self.assertIsNone(held_by(found[word], other, handed), word)
        self.assertEqual(held_by(found["module"], other, ()), ())
        self.assertIsNone(held_by(found["caught"], plain, (None, 2)))
        self.assertIsNone(held_by(found["turn"], plain, (0, 5)))

    def test_nothing_is_changed(self):
        record, = of_word("deed", "(do (call go ()))", "(go () ((keep a (= 1)) (say (= 2)) (do (new box ()))))",
            "(box - ())")
        plain = plain_of("(let a (= 5))", "", "(box - ())")
        self.assertEqual(held_by(record=record, plain=plain, handed=(None, ())), ())
        self.assertEqual((plain.cell("main", "a"), plain.sayings(), plain.things(), plain.steps()), (5, (), 0, 2))


if __name__ == "__main__":
    unittest.main()
