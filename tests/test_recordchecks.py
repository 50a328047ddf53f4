"""Checkers: which things are records that are so."""
import unittest

from everso.recordchecks import record_holds
from everso.runs import Run
from samples import anything, as_lists, program_of, put_otherwise

BOX = ("kind", "main", "box")
ONE = ("worth", 1)


def own(name):
    return ("own", name)


def row(*worths):
    return ("row", worths)


def thing(k):
    return ("thing", k)


def with_part(record, k, part):
    return record[:k] + (part,) + record[k + 1:]


# A call that reads a thing's sort and names, and puts a field.
CALL = (
    ("deed", (("t", "n"), (("put", own("t"), "a", own("n")), ("tell", ("field", own("t"), "a"))))),
    (None, (thing(3), 5)),
    ((("sort", 3), (BOX,)), (("names", 3), ((),))),
    (("make", 4, ("room",), None), ("field", 4, "t", thing(3)), ("field", 4, "n", 5), ("field", 3, "a", 5)),
    ("told", 5), 6, 1,
)
# A waking of a giver that gave in an each, in a last.
GIVER = (("n",), (("each", own("x"), own("n"),
    (("try", (("leave",),), None, (("say", own("x")), ("give", own("y"), own("x")))),)),))
HELD = ("gave", ((0, 0), (0, 2), (1,)), (((7, thing(2)), 0), (("on",),)))
GAVE = ("gave", ((0, 0), (0, 2), (1,)), (((7, thing(2)), 0), (("left",),)))
WAKE = (
    ("wake", GIVER), (1, "up"),
    ((("frame", 1), (HELD,)), (("up", 1), ((GIVER, 0),))),
    (
        ("frame", 1, ("going",)), ("field", 0, "y", "up"), ("field", 0, "x", thing(2)),
        ("frame", 1, ("ended",)),
    ),
    ("raised", "kind"), 5, 1,
)
# A turn of an each that calls a closure, asks, and calls around.
INNER = (("b",), (("tell", ("word", "plus", (own("b"), ("around", 1, "n")))),))
TURN = (
    ("turn", ("each", own("x"), own("r"),
        (("say", ("call", own("f"), (own("x"),))), ("say", ("ask", "w")), ("leave",)))),
    (0, 5),
    (
        (("field", 0, "f"), (thing(9),)), (("sort", 9), (("closure",),)), (("up", 9), ((INNER, 4),)),
        (("field", 4, "n"), (2,)),
        (("asked", "w"), (3,)), (("told", "w", 3), (True,)),
    ),
    (
        ("field", 0, "x", 5), ("make", 10, ("room",), 4), ("field", 10, "b", 5), ("say", 7), ("asked", "w", 4),
        ("say", True),
    ),
    ("left",), 12, 1,
)


class Good(unittest.TestCase):
    def test_these_are_so(self):
        for record in (CALL, WAKE, TURN):
            self.assertIs(record_holds(record), True)

    def test_others_numbers_of_things(self):
        record = (
            CALL[0], (8, (thing(0), 5)), ((("sort", 0), (BOX,)), (("names", 0), ((),))),
            (("make", 90, ("room",), 8), ("field", 90, "t", thing(0)), ("field", 90, "n", 5), ("field", 0, "a", 5)),
            ("told", 5), 6, 1,
        )
        self.assertTrue(record_holds(record))
        for k, is_so in ((0, False), (7, False), (8, False), (9, True), (10 ** 15, True), (10 ** 30, True), (-1, False),
            (True, False), ("9", False)):
            effects = tuple(effect[:1] + (k if effect[1] == 90 else effect[1],) + effect[2:] for effect in record[3])
            self.assertIs(record_holds(with_part(record, 3, effects)), is_so, k)

    def test_others_names(self):
        others = {"t": "thing", "n": "number", "a": "row", "main": "deed", "box": "own", "x": "say", "r": "ended",
            "f": "told", "w": "names"}

        def renamed(part):
            if isinstance(part, tuple):
                return tuple(renamed(inner) for inner in part)
            return others.get(part, part) if isinstance(part, str) else part
        for record in (CALL, WAKE, TURN):
            self.assertNotEqual(renamed(record), record)
            self.assertTrue(record_holds(renamed(record)))
        # A name that is another one in just one of its places.
        self.assertFalse(record_holds(with_part(CALL, 0, renamed(CALL[0]))))
        self.assertFalse(record_holds(with_part(TURN, 2, renamed(TURN[2]))))
        self.assertFalse(record_holds(with_part(WAKE, 3, renamed(WAKE[3]))))

    def test_a_thing_has_no_number_that_no_worth_has(self):
        text = ("rows", (("do", ("row", (("new", ("cell", "main", "box"), ()),))),))
        reads = ((("cell", "main", "box"), (BOX,)), (("chain", "main", "box", "make"), ()))
        for k in (0, 10 ** 15):
            self.assertTrue(record_holds((text, (None, None), reads, (("make", k, BOX, None),), ("on",), 4, 0)))
        for end in (("on",), ("raised", "great"), ("raised", "kind")):
            self.assertFalse(record_holds((text, (None, None), reads, (("make", 10 ** 15 + 1, BOX, None),), end, 4, 0)))

    def test_names_led_in_any_way(self):
        """Which one of those that lead outwards it is isn't looked at."""
        rows = (("let", ("cell", "a", "b"), ONE), ("let", own("b"), ONE),
            ("each", ("cell", "a", "b"), ("worth", row()), ()))
        effects = (("cell", "a", "b", 1), ("field", 2, "b", 1))
        self.assertTrue(record_holds((("rows", rows), (2, None), (), effects, ("on",), 6, 0)))
        within = ("deed", ("a",),
            (("tell", ("around", 12, "zz")), ("give", own("q"), own("no")), ("let", ("cell", "x", "y"), own("a"))))
        effects = (("make", 3, ("closure",), (within[1:], 2)),)
        self.assertTrue(record_holds((("rows", (("do", within),)), (2, None), (), effects, ("on",), 2, 0)))
        self.assertTrue(record_holds((("module", (("do", within),)), (), (),
            (("make", 0, ("closure",), (within[1:], None)),), ("on",), 2, 0)))


class Runs(unittest.TestCase):
    PROGRAM = program_of("""
        (let t (new box ((= 1)))) (let g (call gives ((= [1 2])))) (let f (call made ((= 5))))
        (each x (= [1 'a' yes]) (
            (try ((say (plus x (field t a))) (put t b x) (out t b)) (e ((say e))) ((do (fields t))))
        ))
        (while (at (wake g (= 7)) (= 0)) ((say (call f ()))))
        (if (same t t) ((say (ask w))) ()) (say (send t get ((= 3)))) (let n (= 0))
        (while (less n (= 3)) ((let n (plus n (= 1))) (if (same n (= 2)) ((leave)) ())))
        (try ((do (field t no))) - ((do (call down ((= 4))))))
    """, """
        (down (n) ((if (less (= 0) n) ((tell (call down ((minus n (= 1)))))) ((tell (sort f))))))
        (gives (r) ((each x r ((try ((give y x) (say y)) (e ()) ((give z (= 'last'))))))))
        (made (n) ((tell (deed () ((let m (plus n (= 1))) (tell (row (m n))))))))
    """, "(box - ((get (self n) ((tell (plus n (field self a))))) (make (self a) ((put self a a)))))")

    def records(self):
        run = Run(self.PROGRAM)
        run.tell("w", ("row", (1, None)))
        self.assertEqual(run.stand(), ("raised", "lacks"))
        return [record for _, record in run.records()]

    def test_each_record_that_a_run_tells_is_so(self):
        records = self.records()
        self.assertEqual({record[0][0] for record in records}, {"module", "deed", "turn", "rows", "caught", "wake"})
        for record in records:
            self.assertIs(record_holds(record), True, record)

    def test_each_effect_end_step_otherwise_isnt(self):
        for record in self.records():
            _, _, reads, effects, end, steps, deep = record
            for k, effect in enumerate(effects):
                for others in ((), (effect, effect), (effect[:-1] + ("zz",),), (effect[:-1],), (list(effect),)):
                    found = with_part(record, 3, effects[:k] + others + effects[k + 1:])
                    self.assertFalse(record_holds(found), (record, k, others))
                if k and effect != effects[k - 1]:
                    self.assertFalse(record_holds(with_part(record, 3,
                        effects[:k - 1] + (effect, effects[k - 1]) + effects[k + 1:])))
            for other in (("on",), ("told", 77), ("raised", 77), ("left",), ("over",), ("gave", 77), (), None,
                ("told",), ["on"], "on"):
                if other != end:
                    self.assertFalse(record_holds(with_part(record, 4, other)))
            for other in (steps + 1, steps - 1, -1, 5001, None, "1", float(steps), (steps,)):
                self.assertFalse(record_holds(with_part(record, 5, other)))
            for other in (deep + 1, deep - 1, 13, None, float(deep), (deep,)):
                self.assertFalse(record_holds(with_part(record, 6, other)))

    def test_reads_out_twice_exchanged_arent(self):
        for record in self.records():
            reads = record[2]
            for k, read in enumerate(reads):
                place, was = read
                for others in ((), (read, read), ((place,),), ((place, was, was),), ((place, list(was)),),
                    (list(read),), ((place, was + was),)):
                    if others != (read,):
                        self.assertFalse(record_holds(with_part(record, 2, reads[:k] + others + reads[k + 1:])),
                            (record, k, others))
                self.assertFalse(record_holds(with_part(record, 2,
                    reads[:k] + reads[k + 1:] + (read,))) and k < len(reads) - 1)
            for more in ((("cell", "main", "zz"), ()), (("sort", 0), (BOX,)), (("asked", "zz"), (0,))):
                self.assertFalse(record_holds(with_part(record, 2, reads + (more,))))
                self.assertFalse(record_holds(with_part(record, 2, (more,) + reads)))

    def test_a_list_in_the_place_of_a_tuple_isnt(self):
        for record in (CALL, WAKE, TURN):
            for changed in as_lists(record):
                self.assertFalse(record_holds(changed), changed)

    def test_truths_in_the_place_of_numbers_arent(self):
        for record in self.records() + [CALL, WAKE, TURN]:
            for k in (5, 6):
                if record[k] in (0, 1):
                    self.assertFalse(record_holds(with_part(record, k, bool(record[k]))))
        text = ("rows", (("say", ONE),))
        for worth, is_so in ((1, True), (True, False)):
            self.assertIs(record_holds((text, (None, None), (), (("say", worth),), ("on",), 2, 0)), is_so)
        text = ("deed", (("n",), (("tell", own("n")),)))
        for worth, other, is_so in ((1, 1, True), (True, 1, False), (1, True, False), (True, True, True)):
            effects = (("make", 0, ("room",), None), ("field", 0, "n", other))
            self.assertIs(record_holds((text, (None, (worth,)), (), effects, ("told", other), 2, 1)), is_so)


class Otherwise(unittest.TestCase):
    def test_each_part_put_otherwise(self):
        """Any one part of these counts, but for a few by which just the same would be done."""
        others = (None, True, 0, 1, 77, "zz", (), ("zz",), thing(77), ("leave",))
        for record, many in ((CALL, 4), (WAKE, 7), (TURN, 1)):
            so = {repr(changed) for changed in put_otherwise(record,
                others) if changed != record and record_holds(changed)}
            self.assertEqual(len(so), many, sorted(so))

    def test_a_call(self):
        text, handed, reads, effects, end, steps, deep = CALL
        for changed in (
            with_part(CALL, 1, (None, (thing(3),))), with_part(CALL, 1, (None, (thing(3), 5, 5))), with_part(CALL, 1,
                (None, (thing(2), 5))),
            with_part(CALL, 1, (None, (thing(3), 6))), with_part(CALL, 1, (2, (thing(3), 5))), with_part(CALL, 1,
                (None,)),
            with_part(CALL, 1, (True, (thing(3), 5))), with_part(CALL, 1,
                (None, (thing(3), ("thing", -1)))), with_part(CALL, 1, ()),
            with_part(CALL, 0, ("wake",) + text[1:]), with_part(CALL, 0, ("turn",) + text[1:]), with_part(CALL, 0,
                text + (1,)),
            with_part(CALL, 2, (reads[0], (("names", 3), (("a", "a"),)))), with_part(CALL, 2,
                (reads[0], (("names", 3), (("A",),)))),
            with_part(CALL, 2, (reads[0], (("names", 3), ()))), with_part(CALL, 2, ((("sort", 3), ()), reads[1])),
            with_part(CALL, 2, ((("sort", 3), (("deed", "main", "box"),)), reads[1])), with_part(CALL, 2,
                ((("sort", 3), (("closure",),)), reads[1])),
            with_part(CALL, 2, reads[::-1]), CALL[:6], CALL + (1,),
        ):
            self.assertFalse(record_holds(changed), changed)
        # Another kind, and a field that is there already: what comes is the same.
        self.assertTrue(record_holds(with_part(CALL, 2, ((("sort", 3), (("kind", "a", "b"),)), reads[1]))))
        self.assertTrue(record_holds(with_part(CALL, 2, (reads[0], (("names", 3), (("b", "a"),))))))

    def test_a_wake(self):
        text, handed, reads, effects, end, steps, deep = WAKE
        frame, up = reads
        for held, is_so in (
            (GAVE, False), (("new",), False), (("going",), False), (("ended",), False), (("gave", (), ()), False),
            (("gave", ((0,),), ()), False),
            (("gave", ((0, 0), (0, 2), (0,)), HELD[2]), False), (("gave", ((0, 0), (0, 0), (0,)), HELD[2]), False),
            (("gave", ((0, 0), (0, 1), (1,)), HELD[2]), False), (("gave", ((0, 1), (0, 2), (1,)), HELD[2]), False),
            (("gave", ((1, 0), (0, 2), (1,)), HELD[2]), False), (("gave", HELD[1], ()), False),
            (("gave", HELD[1], HELD[2][:1]), False),
            (("gave", HELD[1], HELD[2] + ((("on",),),)), False), (("gave", HELD[1], HELD[2][::-1]), False),
            (("gave", HELD[1], (((7, thing(2)), 2), (("on",),))), False),
            (("gave", HELD[1], (((7, thing(2)), -1), (("on",),))), False),
            (("gave", HELD[1], (((7, thing(2)), True), (("on",),))), False),
            (("gave", HELD[1], (((7, thing(2)), 0), (("over",),))), False),
            (("gave", HELD[1], (((7, thing(2)), 0), (("told", ("thing", -1)),))), False),
            (("gave", HELD[1], (((7,) * 41, 0), (("on",),))), False),
            (("gave", ((0, 0), (0, 2), (True,)), HELD[2]), False),
            (("gave", ((False, 0), (0, 2), (1,)), HELD[2]), False),
        ):
            self.assertIs(record_holds(with_part(WAKE, 2, ((frame[0], (held,)), up))), is_so, held)
        for other in (
            ((GIVER, None),), (0,), (None,), ((GIVER, -1),), ((GIVER, True),), (((("n",), ()), 0),), (),
            ((GIVER, 0, 0),), ((INNER, 0),),
            ((with_part(GIVER, 0, ("m",)), 0),),
        ):
            self.assertFalse(record_holds(with_part(WAKE, 2, (frame, (up[0], other)))), other)
        self.assertFalse(record_holds(with_part(WAKE, 1, (None, "up"))))
        self.assertFalse(record_holds(with_part(WAKE, 1, (2, "up"))))
        self.assertFalse(record_holds(with_part(WAKE, 2, (up, frame))))
        self.assertFalse(record_holds(with_part(WAKE, 2, (frame,))))
        self.assertFalse(record_holds(with_part(WAKE, 2, (up,))))

    def test_what_lasts_hold(self):
        """An end that a last holds is left within a loop alone."""
        def record(rows, path, loops, end, effects, steps):
            deed = ((), rows)
            return (
                ("wake", deed), (1, None), ((("frame", 1), (("gave", path, loops),)), (("up", 1), ((deed, 0),))),
                (("frame", 1, ("going",)), ("field", 0, "a", None)) + effects + (("frame", 1, ("ended",)),), end, steps,
                1,
            )
        give = ("give", own("a"), ONE)
        in_try = (("try", (), None, (give,)),)
        in_loop = (("while", ("worth", True), in_try),)
        for held, end in ((("told", 5), ("told", 5)), (("raised", 5), ("raised", 5)), (("on",), ("told", None))):
            self.assertTrue(record_holds(record(in_try, ((0, 2), (0,)), ((held,),), end, (), 0)))
        self.assertFalse(record_holds(record(in_try, ((0, 2), (0,)), ((("left",),),), ("left",), (), 0)))
        self.assertFalse(record_holds(record(in_try, ((0, 2), (0,)), ((("left",),),), ("told", None), (), 0)))
        self.assertTrue(record_holds(record(in_loop, ((0, 0), (0, 2), (0,)), ((("left",),),), ("told", None), (), 0)))
        # A loop within the last doesn't stand around it.
        looped = (("try", (), None, (("while", ("worth", False), (give,)),)),)
        self.assertTrue(record_holds(record(looped, ((0, 2), (0, 0), (0,)), ((("on",),),), ("told", None), (), 2)))
        self.assertFalse(record_holds(record(looped, ((0, 2), (0, 0), (0,)), ((("left",),),), ("told", None), (), 2)))

    def test_what_lasts_hold_where_it_comes_to_nothing(self):
        """It has to be an end of a try's rows all the same, and in a frame that leads to a give."""
        deed = ((), (("try", (), None, (("give", ("cell", "m", "a"), ONE), ("tell", ("worth", 5)))),
            ("let", ("cell", "m", "b"), ONE)))

        def record(path, *loops, deed=deed, more=(("cell", "m", "a", 7),), end=("told", 5), steps=2):
            frame = ("gave", path, loops)
            return (
                ("wake", deed), (1, 7), ((("frame", 1), (frame,)), (("up", 1), ((deed, 0),))),
                (("frame", 1, ("going",)),) + more + (("frame", 1, ("ended",)),), end, steps, 1,
            )
        path = ((0, 2), (0,))
        for held, is_so in (
            (("on",), True), (("told", 3), True), (("raised", "kind"), True), (("told", ("thing", 9)), True),
            (("left",), False), (("over",), False),
            (("gave", 1), False), (("told",), False), (("told", 1, 2), False), (("told", ("thing", -1)), False),
            (("raised", ()), False),
            ("on", False), ((), False), (None, False), (["on"], False), (("on", None), False), (("no", 1), False),
        ):
            self.assertIs(record_holds(record(path, (held,))), is_so, held)
        for loops in ((), (("on",),), ((("on",), 0),), ((("on",),), (("on",),)), ((),), (None,), ([("on",)],)):
            self.assertFalse(record_holds(record(path, *loops)), loops)
        # A let, where the name is one too, is no give.
        self.assertFalse(record_holds(record(((1,),), more=(("cell", "m", "b", 7),), end=("told", None), steps=0)))
        # A try stands in a loop where something else stands between, too.
        for outer, is_so in (("while", True), ("if", False)):
            deed_now = ((), ((outer, ("worth", True), (("if", ONE, deed[1][:1], ()),)) + ((),) * (outer == "if"),))
            found = record(((0, 0), (0, 0)) + path, (("left",),), deed=deed_now)
            self.assertIs(record_holds(found), is_so)

    def test_the_ups_of_givers_and_what_they_bear(self):
        """The room isn't asked for, and so counts by its form alone."""
        give = ("give", ("cell", "m", "a"), ONE)
        for deed, room, is_so in (
            (((), (give,)), 0, True), (((), (give,)), None, False), (((), (give,)), True, False),
            (((), (give,)), -1, False),
            (((), (("leave",), give)), 0, False), (((), (("do", ("deed", (), (give,))),)), 0, False),
            (((), ()), 0, False),
        ):
            effects = (("frame", 1, ("going",)), ("frame", 1, ("gave", ((0,),), ())))
            reads = ((("frame", 1), (("new",),)), (("up", 1), ((deed, room),)))
            self.assertIs(record_holds((("wake", deed), (1, None), reads, effects, ("gave", 1), 2, 1)), is_so, deed)
            text = ("rows", (("do", ("wake", ("cell", "m", "g"), ("worth", None))),))
            reads = ((("cell", "m", "g"), (("thing", 1),)), (("sort", 1), (("giver",),))) + reads
            self.assertIs(record_holds((text, (None, None), reads, effects, ("on",), 6, 1)), is_so, deed)
            ended = (("frame", 1, ("going",)), ("frame", 1, ("ended",)))
            self.assertFalse(record_holds((text, (None, None), reads, ended, ("on",), 4, 1)) and not is_so)

    def test_ups_and_frames_of_other_lengths(self):
        deed = ((), (("give", ("cell", "m", "a"), ONE),))
        text = ("rows", (("do", ("wake", ("cell", "m", "g"), ("worth", None))),))
        ahead = ((("cell", "m", "g"), (("thing", 1),)), (("sort", 1), (("giver",),)))
        effects = (("frame", 1, ("going",)), ("frame", 1, ("gave", ((0,),), ())))
        behind = (("frame", 1, ("going",)), ("cell", "m", "a", None), ("frame", 1, ("ended",)))
        gave = ("gave", ((0,),), ())
        for up, frame, is_so in (
            ((deed, 0), ("new",), True), ((deed, 0, 0), ("new",), False), ((deed,), ("new",), False),
            (None, ("new",), False),
            (0, ("new",), False), ([deed, 0], ("new",), False), ((), ("new",), False), ((deed, 0), ("new", 1), False),
            ((deed, 0), gave, True), ((deed, 0), gave[:2], False), ((deed, 0), gave[:1], False),
            ((deed, 0), gave + (1,), False),
            ((deed, 0, 0), gave, False), ((deed,), gave, False), (0, gave, False), (None, gave, False),
            ((deed, 0), ("gave", [(0,)], ()), False), ((deed, 0), ("gave", ((0,),), []), False),
            ((deed, 0), ("gave", None, ()), False),
            ((deed, 0), ("gave", ((0,),), None), False), ((deed, 0), ("gave", (0,), ()), False),
            ((deed, 0), ("gave", ((0, 0),), ()), False),
        ):
            reads = ((("frame", 1), (frame,)), (("up", 1), (up,)))
            done, end, steps = (behind, ("told", None), 0) if frame[0] == "gave" else (effects, ("gave", 1), 2)
            self.assertIs(record_holds((("wake", deed), (1, None), reads, done, end, steps, 1)), is_so, (up, frame))
            self.assertIs(record_holds((text, (None, None), ahead + reads, done, ("on",), steps + 4, 1)), is_so,
                (up, frame))

    def test_takes_may_be_called_as_a_row(self):
        closure = (("make", 0, ("closure",), ((("keep", "a"), ()), None)),)
        self.assertTrue(record_holds((("rows", (("do", ("deed", ("keep", "a"), ())),)), (None, None), (), closure,
            ("on",), 2, 0)))

    def test_frames_that_are_read(self):
        text = ("rows", (("do", ("wake", ("cell", "m", "g"), ("worth", None))),))
        reads = ((("cell", "m", "g"), (("thing", 1),)), (("sort", 1), (("giver",),)))
        for frame, end, is_so in (
            (("going",), ("raised", "runs"), True), (("ended",), ("raised", "ended"), True), (("new",), ("on",), False),
            (("gave", ((0,),), ()), ("on",), False), (("over",), ("raised", "ended"), False),
            ((), ("raised", "runs"), False),
            (("going", 1), ("raised", "runs"), False), (["going"], ("raised", "runs"), False),
            ("going", ("raised", "runs"), False),
        ):
            self.assertIs(record_holds((text, (None, None), reads + ((("frame", 1), (frame,)),), (), end, 4, 0)), is_so,
                frame)

    def test_sorts_that_are_read(self):
        text = ("rows", (("say", ("word", "sort", (("cell", "m", "t"),))),))
        for sort, word in (
            (("kind", "m", "k"), "thing"), (("giver",), "thing"), (("room",), "thing"), (("closure",), "deed"),
            (("deed", "m", "k"), None),
            (("kind", "m"), None), (("kind", "m", "K"), None), (("thing",), None), ("giver", None), ((), None),
            (None, None), (["giver"], None),
        ):
            reads = ((("cell", "m", "t"), (("thing", 1),)), (("sort", 1), (sort,)))
            for said in ("thing", "deed", "kind"):
                self.assertIs(record_holds((text, (None, None), reads, (("say", said),), ("on",), 3, 0)), said == word,
                    sort)

    def test_a_turn(self):
        reads = TURN[2]
        for k, was in (
            (0, (5,)), (0, (thing(8),)), (1, (("giver",),)), (1, (("room",),)), (2, (4,)), (2, ((INNER, None),)),
            (2, ((INNER, 5),)),
            (2, (((("b",), (("tell", ("around", 13, "n")),)), 4),)), (2, (((("b",), (("tell", ("name", "n")),)), 4),)),
            (3, ()), (3, (3,)),
            (3, (True,)), (4, (2,)), (4, ()), (4, (True,)), (4, (-1,)), (5, ()), (5, (1,)), (5, (thing(1),)),
        ):
            changed = reads[:k] + ((reads[k][0], was),) + reads[k + 1:]
            self.assertFalse(record_holds(with_part(TURN, 2, changed)), (k, was))
        for k in range(len(reads)):
            self.assertFalse(record_holds(with_part(TURN, 2, reads[:k] + reads[k + 1:])))
            for other in range(k):
                changed = list(reads)
                changed[k], changed[other] = reads[other], reads[k]
                self.assertFalse(record_holds(with_part(TURN, 2, tuple(changed))))
        for handed in ((1, 5), (None, 5), (0, None), (0, True), (0, 6), (0, (5,)), (0,), (), None):
            self.assertFalse(record_holds(with_part(TURN, 1, handed)), handed)
        self.assertFalse(record_holds(with_part(TURN, 0, ("turn",) + (with_part(TURN[0][1], 0, "while"),))))


class Texts(unittest.TestCase):
    def check(self, text, handed, is_so, effects=(), end=("on",), steps=0, deep=0):
        self.assertIs(record_holds((text, handed, (), effects, end, steps, deep)), is_so, (text, handed))

    def test_without_rows(self):
        room = (("make", 0, ("room",), None),)
        self.check(("deed", ((), ())), (None, ()), True, room, ("told", None), 0, 1)
        self.check(("module", ()), (), True)
        self.check(("turn", ("each", own("a"), ("worth", row()), ())), (0, 1), True, (("field", 0, "a", 1),), steps=1)
        self.check(("turn", ("while", ("worth", False), ())), (None, None), True, (), ("over",), 2)
        self.check(("rows", ()), (None, None), False)
        self.check(("rows", ()), (0, None), False)
        self.check(("caught", own("a"), ()), (0, 1), False, (("field", 0, "a", 1),))
        self.check(("caught", ("cell", "m", "a"), ()), (None, 1), False, (("cell", "m", "a", 1),))
        self.check(("wake", ((), ())), (0, 1), False)

    def test_where_leave_may_stand(self):
        leave = (("leave",),)
        self.check(("rows", leave), (None, None), True, (), ("left",), 1)
        self.check(("rows", leave), (0, None), True, (), ("left",), 1)
        self.check(("caught", ("cell", "m", "a"), leave), (None, 1), True, (("cell", "m", "a", 1),), ("left",), 1)
        self.check(("turn", ("while", ("worth", True), leave)), (None, None), True, (), ("left",), 3)
        self.check(("module", leave), (), False, (), ("left",), 1)
        self.check(("module", (("while", ("worth", True), leave),)), (), True, (), ("on",), 4)
        self.check(("deed", ((), leave)), (None, ()), False, (("make", 0, ("room",), None),), ("left",), 1, 1)
        closure = (("make", 0, ("closure",), (((), leave), None)),)
        self.check(("rows", (("do", ("deed", (), leave)),)), (None, None), False, closure, ("on",), 2)
        looped = (("while", ONE, leave),)
        closure = (("make", 0, ("closure",), (((), looped), None)),)
        self.check(("rows", (("do", ("deed", (), looped)),)), (None, None), True, closure, ("on",), 2)

    def test_what_stands_only_where_there_is_a_room(self):
        for rows, effects, end, steps in (
            ((("let", own("a"), ONE),), (("field", 0, "a", 1),), ("on",), 2), ((("tell", ONE),), (), ("told", 1), 2),
            ((("each", own("a"), ("worth", row()), ()),), (), ("on",), 2),
            ((("try", (), (own("a"), ()), ()),), (), ("on",), 1),
            ((("if", ("worth", False), (("tell", ONE),), ()),), (), ("on",), 2),
        ):
            self.check(("rows", rows), (0, None), True, effects, end, steps)
            self.check(("rows", rows), (None, None), False, effects, end, steps)
            self.check(("module", rows), (), False, effects, end, steps)
        for expression in (own("a"), ("around", 1, "a")):
            rows = (("if", ("worth", False), (("do", expression),), ()),)
            self.check(("rows", rows), (0, None), True, (), ("on",), 2)
            self.check(("rows", rows), (None, None), False, (), ("on",), 2)
        self.check(("caught", own("a"), (("do", ONE),)), (0, 5), True, (("field", 0, "a", 5),), ("on",), 2)
        self.check(("caught", own("a"), (("do", ONE),)), (None, 5), False, (("field", 0, "a", 5),), ("on",), 2)
        self.check(("turn", ("each", own("a"), ONE, ())), (None, 5), False, (("field", 0, "a", 5),), ("on",), 1)
        within = (("do", ("deed", (), (("tell", own("a")),))),)
        closure = (("make", 0, ("closure",), (within[0][1][1:], None)),)
        self.check(("rows", within), (None, None), True, closure, ("on",), 2)

    def test_where_give_may_stand(self):
        give = ("give", own("a"), ONE)
        hidden = (("if", ("worth", False), (give,), ()),)
        for rows in ((give,), hidden):
            self.check(("rows", rows), (0, None), False, (), ("on",), 2)
            self.check(("caught", own("e"), rows), (0, 1), False, (("field", 0, "e", 1),), ("on",), 2)
            self.check(("turn", ("while", ("worth", False), rows)), (0, None), False, (), ("over",), 2)
            self.check(("deed", ((), rows)), (None, ()), False, (("make", 0, ("room",), None),), ("told", None), 2, 1)
            self.check(("module", rows), (), False, (), ("on",), 2)
        deed = ((), hidden)
        reads = ((("frame", 1), (("new",),)), (("up", 1), ((deed, 0),)))
        effects = (("frame", 1, ("going",)), ("frame", 1, ("ended",)))
        self.assertTrue(record_holds((("wake", deed), (1, 5), reads, effects, ("told", None), 2, 1)))
        deed = ((), (("do", ("deed", (), (give,))),))
        reads = ((("frame", 1), (("new",),)), (("up", 1), ((deed, 0),)))
        effects = (("frame", 1, ("going",)), ("make", 2, ("closure",), (((), (give,)), 0)), ("frame", 1, ("ended",)))
        self.assertFalse(record_holds((("wake", deed), (1, 5), reads, effects, ("told", None), 2, 1)))

    def test_around_from_one_to_twelve_and_never_behind_the_last_room(self):
        for k, is_so in ((0, False), (1, True), (2, True), (12, True), (13, False), (-1, False), (True, False),
            ("1", False), (None, False)):
            rows = (("if", ("worth", False), (("do", ("around", k, "a")),), ()),)
            self.check(("rows", rows), (0, None), is_so, (), ("on",), 2)
        text = ("rows", (("do", ("around", 2, "a")),))
        ups = ((("up", 5), (6,)), (("up", 6), (7,)))
        self.assertTrue(record_holds((text, (5, None), ups + ((("field", 7, "a"), (1,)),), (), ("on",), 2, 0)))
        for end in (("raised", "lacks"), ("on",)):
            self.assertFalse(record_holds((text, (5, None), ups[:1] + ((("up", 6), (None,)),), (), end, 2, 0)))
            self.assertFalse(record_holds((text, (5, None), ((("up", 5), (None,)),), (), end, 2, 0)))

    def test_led_names(self):
        for name in (("own", "a"), ("cell", "m", "a")):
            self.check(("rows", (("if", ("worth", False), (("let", name, ONE),), ()),)), (0, None), True, (), ("on",),
                2)
        for name in ("a", ("around", 1, "a"), ("name", "a"), ("far", "m", "a"), ("own", "A"), ("own",), ("cell", "m"),
            ("own", "a", "b"), None, ()):
            self.check(("rows", (("if", ("worth", False), (("let", name, ONE),), ()),)), (0, None), False, (), ("on",),
                2)
            self.check(("caught", name, (("do", ONE),)), (0, 5), False, (), ("on",), 2)
        for rows in (
            (("keep", "a", ONE),), (("keep", own("a"), ONE),), (("keep", ("cell", "m", "a"), ONE),),
            (("do", ("name", "a")),),
            (("do", ("cell", "m")),), (("let", "a", ONE),), (("each", "a", ONE, ()),), (("try", (), ("a", ()), ()),),
        ):
            self.check(("rows", (("if", ("worth", False), rows, ()),)), (0, None), False, (), ("on",), 2)

    def test_what_is_no_text(self):
        """What would come of it would be just so, but it isn't one of the forms."""
        do = (("do", ONE),)
        room = (("make", 0, ("room",), None),)
        for text, handed, effects, end, steps, deep in (
            (("rows", do), (None, None), (), ("on",), 2, 0), (("module", do), (), (), ("on",), 2, 0),
            (("deed", ((), do)), (None, ()), room, ("told", None), 2, 1),
            (("turn", ("while", ("worth", False), ())), (None, None), (), ("over",), 2, 0),
            (("caught", ("cell", "m", "a"), do), (None, 1), (("cell", "m", "a", 1),), ("on",), 2, 0),
        ):
            self.check(text, handed, True, effects, end, steps, deep)
            for other in (text + (None,), text + ((),), text[:-1], ("row",) + text[1:], list(text), (text,)):
                self.check(other, handed, False, effects, end, steps, deep)
        for row_now in (("say", ONE), ("if", ("worth", False), (), ()), ("try", (), None, ()), ("do", ONE), ("leave",),
            ONE):
            for end, steps in (("on",), 1), (("over",), 2), (("left",), 1), (("on",), 2):
                self.check(("turn", row_now), (None, None), False, (), end, steps)
        for reads in ((), ((("frame", 1), (("new",),)), (("up", 1), ((((), ()), 0),)))):
            effects = (("frame", 1, ("going",)), ("frame", 1, ("ended",)))
            self.assertFalse(record_holds((("wake", ((), ())), (1, None), reads, effects, ("told", None), 0, 1)))
        deed = ((), (("give", ("cell", "m", "a"), ONE),))
        reads = ((("frame", 1), (("new",),)), (("up", 1), ((deed, 0),)))
        effects = (("frame", 1, ("going",)), ("frame", 1, ("gave", ((0,),), ())))
        for text, is_so in ((("wake", deed), True), (("wake", deed, ()), False), (("wake", deed + ((),)), False),
            (("wake",), False)):
            self.assertIs(record_holds((text, (1, None), reads, effects, ("gave", 1), 2, 1)), is_so)

    def test_what_is_handed(self):
        """The same would come of it, but what is handed isn't what is to be."""
        do = (("do", ONE),)
        room = (("make", 0, ("room",), None),)
        each, loop = ("each", ("cell", "m", "a"), ONE, ()), ("while", ("worth", False), ())
        for text, rights, wrongs, effects, end, steps, deep in (
            (("rows", do), ((None, None), (5, None)), ((None, 5), (None, ()), (None,), (None, None, None), ()), (),
                ("on",), 2, 0),
            (("turn", loop), ((None, None), (5, None)), ((None, 5), (None, False), (), (None,)), (), ("over",), 2, 0),
            (("turn", each), ((None, None), (7, None)), ((None, 5), (None,), (None, ())), (("cell", "m", "a", None),),
                ("on",), 1, 0),
            (("module", do), ((),), ((None, None), (None,), None, []), (), ("on",), 2, 0),
            (("caught", ("cell", "m", "a"), do), ((None, 1), (5, 1)), ((None, ()), (1,), (None, 1, 1)),
                (("cell", "m", "a", 1),), ("on",), 2, 0),
            (("deed", ((), do)), ((None, ()),), ((None, None), (None, []), (None, (None,)), (), ((), ())), room,
                ("told", None), 2, 1),
        ):
            for handed in rights:
                self.check(text, handed, True, effects, end, steps, deep)
            for handed in wrongs + ((-1, rights[0][-1] if rights[0] else None), ("5", None), (True, None), None, 5,
                [None, None]):
                self.check(text, handed, False, effects, end, steps, deep)

    def test_what_is_handed_to_a_waking(self):
        deed = ((), (("give", ("cell", "m", "a"), ONE),))
        reads = ((("frame", 1), (("new",),)), (("up", 1), ((deed, 0),)))
        effects = (("frame", 1, ("going",)), ("frame", 1, ("gave", ((0,),), ())))
        for handed in ((None, 5), ("1", 5), (True, 5), (-1, 5), (1,), (1, 5, 5), (1, ()), (), None, [1, 5],
            (1, thing(-1)), (2, 5)):
            for reads_now in (reads, reads[:1], ()):
                self.assertIs(record_holds((("wake", deed), handed, reads_now, effects, ("gave", 1), 2, 1)), False,
                    handed)
        self.assertTrue(record_holds((("wake", deed), (1, 5), reads, effects, ("gave", 1), 2, 1)))

    def test_four_hundred_parts_and_one_more(self):
        for many, is_so in ((200, True), (201, False)):
            rows = (("do", ONE),) * many
            self.check(("rows", rows), (None, None), is_so, (), ("on",), 2 * many)
            self.check(("module", rows), (), is_so, (), ("on",), 2 * many)
            self.check(("deed", ((), rows)), (None, ()), is_so, (("make", 0, ("room",), None),), ("told", None),
                2 * many, 1)
        rows = (("do", ONE),) * 200 + (("try", (), None, ()),)
        self.check(("rows", rows), (None, None), False, (), ("on",), 401)
        self.check(("rows", rows[1:]), (None, None), True, (), ("on",), 399)
        for many, is_so in ((199, True), (200, False)):
            rows = (("do", ONE),) * many
            self.check(("turn", ("while", ("worth", True), rows)), (None, None), is_so, (), ("on",), 2 * many + 2)

    def test_five_thousand_steps_and_more(self):
        count = ("cell", "m", "n")
        more = (("let", count, ("word", "plus", (count, ONE))),)
        for end in (623, 624, 625):
            for ahead, more_steps in (((), 0), (("do", ONE), 2), (("do", ("row", (ONE,))), 3),
                (("do", ("row", (ONE, ONE))), 4)):
                rows = (ahead,) * bool(ahead) + (("while", ("word", "less", (count, ("worth", end))), more),)
                # Eight in each turn, four in the last one, of which the test isn't so.
                steps = more_steps + 1 + 8 * end + 4
                effects = tuple(("cell", "m", "n", n) for n in range(1, end + 1))
                record = (("rows", rows), (None, None), ((count, (0,)),), effects, ("on",), steps, 0)
                self.assertIs(record_holds(record), steps <= 5000, steps)

    def test_twelve_deep_and_one_more(self):
        down = ("deed", (("n",), (("if", ("word", "less", (("worth", 0), own("n"))), (
            ("do", ("call", ("cell", "m", "d"), (("word", "minus", (own("n"), ONE)),))),), ()),)))
        for deep in (1, 2, 12, 13):
            calls = tuple(
                effect for k in range(deep) for effect in (("make", k, ("room",), None),
                    ("field", k, "n", deep - 1 - k))
            )
            reads = ((("cell", "m", "d"), (("deed", "m", "d"),)), (("deed", "m", "d"), (down[1],)))
            record = (down, (None, (deep - 1,)), reads if deep > 1 else (), calls, ("told", None), 4 + 10 * (deep - 1),
                deep)
            self.assertIs(record_holds(record), deep <= 12, deep)
            self.assertFalse(record_holds(with_part(record, 6, deep - 1)))
            self.assertFalse(record_holds(with_part(record, 6, deep + 1)))


class Numbering(unittest.TestCase):
    TEXT = ("rows", (("do", ("new", ("cell", "m", "k"), ())), ("do", ("new", ("cell", "m", "k"), ()))))
    READS = ((("cell", "m", "k"), (("kind", "m", "k"),)), (("chain", "m", "k", "make"), ()))

    def record(self, one, other, room=None):
        made = (("make", one, ("kind", "m", "k"), None), ("make", other, ("kind", "m", "k"), None))
        return (self.TEXT, (room, None), self.READS, made, ("on",), 6, 0)

    def test_one_behind_another_above_what_was_handed(self):
        self.assertTrue(record_holds(self.record(0, 1)))
        self.assertTrue(record_holds(self.record(6, 7, 5)))
        self.assertTrue(record_holds(self.record(70, 71, 5)))
        for one, other, room in ((0, 2, None), (1, 0, None), (0, 0, None), (5, 6, 5), (4, 5, 5), (-1, 0, None),
            (False, True, None)):
            self.assertFalse(record_holds(self.record(one, other, room)))

    def test_above_what_stood_in_reads_wherever(self):
        text = ("rows", (("do", ("new", ("cell", "m", "k"), ())), ("do", ("cell", "m", "a"))))
        for worth, k, is_so in (
            (thing(7), 8, True), (thing(7), 7, False), (thing(7), 0, False), (row(row(thing(9)), 1), 9, False),
            (row(row(thing(9)), 1), 10, True),
            (row("thing", 5), 0, True), (5, 0, True),
        ):
            reads = self.READS + ((("cell", "m", "a"), (worth,)),)
            record = (text, (None, None), reads, (("make", k, ("kind", "m", "k"), None),), ("on",), 5, 0)
            self.assertIs(record_holds(record), is_so, (worth, k))


class Anything(unittest.TestCase):
    def test_of_anything_it_is_told(self):
        for thing_now in anything():
            self.assertIs(record_holds(thing_now), False)
            for record in (CALL, WAKE, TURN):
                for k in range(7):
                    self.assertIn(record_holds(with_part(record, k, thing_now)), (True, False))
                for k in range(len(record[2])):
                    place, was = record[2][k]
                    for read in (thing_now, (thing_now, was), (place, thing_now), (place, (thing_now,)),
                        (place[:1] + (thing_now,) + place[2:], was)):
                        found = record_holds(with_part(record, 2, record[2][:k] + (read,) + record[2][k + 1:]))
                        self.assertIn(found, (True, False))
            for text in ("deed", "turn", "rows", "caught", "wake", "module"):
                for handed in ((), (None, None), (0, None), (0, ()), thing_now):
                    self.assertIn(record_holds(((text, thing_now), handed, (), (), ("on",), 0, 0)), (True, False))
                    self.assertIs(record_holds(((text, own("a"), thing_now), handed, (), (), ("on",), 0, 0)), False)

    def test_led_deeds_that_are_read(self):
        text = ("rows", (("do", ("call", ("far", "m", "a"), ())),))
        places = (("cell", "m", "a"), ("deed", "m", "a"))
        for deed, is_so in (
            (((), ()), True), (((), (("tell", ("around", 12, "a")),))[:1] + ((),), True), (((), (("leave",),)), False),
            (((), [("leave",)]), False),
            (((), (("tell", ("name", "a")),)), False), (((), (("let", "a", ONE),)), False),
            (((), (("keep", own("a"), ONE),)), False),
            ((("a", "a"), ()), False), (((),), False), (None, False),
            (((), (("if", ("worth", False), (("do", ("around", 13, "a")),), ()),)), False),
        ):
            record = (
                text, (None, None), ((places[0], (places[1],)), (places[1], (deed,))), (("make", 0, ("room",), None),
                    ), ("on",), 3, 1,
            )
            self.assertIs(record_holds(record), is_so, deed)
        lacks = (text, (None, None), ((places[0], (places[1],)), (places[1], ())), (), ("raised", "lacks"), 3, 0)
        self.assertTrue(record_holds(lacks))


if __name__ == "__main__":
    unittest.main()
