"""The promises over the whole program, on programs made by chance, beside another reading of the document."""
import sys
import unittest

from everso import errors
from everso.edits import edited
from everso.holding import held_by
from everso.plains import Plain
from everso.programs import all_parts, is_program
from everso.programtexts import read_program, show_program
from everso.recordchecks import record_holds
from everso.runs import Run
from making import FIELDS, Maker
from reference import Reference, Refused
from reference_runs import ReferenceRun, holds, led, led_handed, led_was
from samples import told_of

MANY = 120


def is_in_bounds(program):
    """Whether a program has no more than four hundred parts."""
    return len([1 for module in program for slot, _, _ in all_parts("module", module) if slot in ("one", "row")]) <= 400


def renumbered(record, numbers):
    """A record in which things have other numbers."""
    text, handed, reads, effects, end, steps, deep = record

    def put(k):
        return numbers[k]

    def effect_of(effect):
        word = effect[0]
        if word == "make":
            return (word, put(effect[1]), effect[2], led("up", effect[3], put))
        if word in ("field", "out", "frame"):
            name, last = (effect[2:3], effect[3:]) if word == "field" else ((), effect[2:])
            kind = "frame" if word == "frame" else "worth"
            return (word, put(effect[1])) + name + tuple(led(kind, part, put) for part in last)
        return effect[:3] + (led("worth", effect[3], put),) if word == "cell" else effect
    return (
        text, led_handed(text, handed, put),
        tuple((led("place", place, put), led_was(place, was, put)) for place, was in reads),
        tuple(effect_of(effect) for effect in effects), led("end", end, put), steps, deep,
    )


def numbers_of(record):
    """The numbers of things that were handed or read, and those that were made."""
    found = []

    def put(k):
        found.append(k)
        return k
    led_handed(record[0], record[1], put)
    for place, was in record[2]:
        led("place", place, put)
        led_was(place, was, put)
    return found, [effect[1] for effect in record[3] if effect[0] == "make"]


class Against(unittest.TestCase):
    def setUp(self):
        # The other reading goes by Python's own calls, the program doesn't need more of them.
        self.addCleanup(sys.setrecursionlimit, sys.getrecursionlimit())
        sys.setrecursionlimit(20000)

    def compare(self, run, reference):
        """All that a Run tells is what the other reading and a Plain tell."""
        told = repr(reference.plain.all_told())
        self.assertEqual(repr(told_of(run, reference.program)), told)
        wells = tuple(sorted(reference.wells.items()))
        plain = Plain(reference.program, wells, most=reference.most, deep=reference.deep)
        self.assertEqual(repr(told_of(plain, reference.program)), told)
        now = (run.gone(), run.spoken(), run.program())
        self.assertEqual(now, (reference.gone, reference.spoken, reference.program))
        self.assertEqual(repr(run.records()), repr(reference.records()))
        counts = reference.plain.trace + [reference.plain.counts()]
        self.assertEqual([run.at(step) for step in range(run.steps() + 1)], counts)
        for place in self.places(reference.plain):
            self.assertEqual(repr(run.there(place)), repr(reference.plain.there(place)), place)
            self.assertEqual(repr(plain.there(place)), repr(reference.plain.there(place)), place)

    def places(self, plain):
        for k in range(len(plain.things) + 1):
            yield from ((word, k) for word in ("names", "sort", "up", "frame"))
            yield from (("field", k, name) for name in (*FIELDS, "i", "x", "e", "self"))
        for module in ("aux", "main", "no"):
            for name in ("ci", "i", "da", "gb", "box", "pot", "no"):
                yield from (("cell", module, name), ("deed", module, name))
                yield from (("chain", module, name, other) for other in ("make", "get", "gen"))
        for well in ("wa", "wb", "no"):
            yield from (("asked", well), ("told", well, 0), ("told", well, 2))

    def check_records(self, run, plain, maker):
        """Each record is so, by other numbers too, and held_by tells where it holds."""
        for _, record in run.records():
            self.assertIs(record_holds(record), True)
            known, made = numbers_of(record)
            numbers = {}
            for k in known:
                while k not in numbers or list(numbers.values()).count(numbers[k]) > 1:
                    numbers[k] = maker.random.randrange(10 ** 6)
            above = max(numbers.values(), default=-1) + maker.random.randrange(1, 4)
            numbers.update({k: above + at for at, k in enumerate(made)})
            self.assertIs(record_holds(renumbered(record, numbers)), True)
            if made and known:
                numbers.update({k: max(numbers[k] for k in known) + at for at, k in enumerate(made)})
                self.assertIs(record_holds(renumbered(record, numbers)), False)
            leads = holds(plain, record, record[0], record[1])
            now = Plain(run.program(), run.wells(), most=plain.most, deep=plain.deep)
            self.assertEqual(held_by(record, now, record[1]), None if leads is None else tuple(sorted(leads.items())))

    def test_runs_beside_it(self):
        told = {"records": 0, "taken": 0, "refused": 0, "let": 0}
        for seed in range(MANY):
            with self.subTest(seed=seed):
                self.one_run(Maker(seed), told)
        # They aren't all of them runs in which nothing happens.
        self.assertGreater(told["records"], 20 * MANY)
        self.assertGreater(told["taken"], 10 * MANY)
        self.assertGreater(told["refused"], MANY // 4)
        self.assertGreater(told["let"], MANY)

    def one_run(self, maker, told):
        program = maker.program()
        self.assertTrue(is_program(program))
        self.assertEqual(read_program(show_program(program)), program)
        most, deep, keep = maker.one_of(150, 600, 2000), maker.one_of(2, 4, 8), maker.one_of(0, 3, 20, 400)
        try:
            reference = ReferenceRun(program, most, deep, keep)
        except Refused as refused:
            with self.assertRaises(getattr(errors, refused.args[0])):
                Run(program, most=most, deep=deep, keep=keep)
            return
        run = Run(program, most=most, deep=deep, keep=keep)
        self.compare(run, reference)
        for _ in range(maker.random.randrange(2, 7)):
            which = maker.random.randrange(5)
            if which == 0 and len(run.sayings()) > run.spoken():
                reference.spoken += len(run.speak())
            elif which < 3:
                self.tell_both(run, reference, maker)
            else:
                self.change_both(run, reference, maker, told)
            self.compare(run, reference)
            told["records"] += len(run.records())
            if is_in_bounds(reference.program) and maker.is_so(0.3):
                self.check_records(run, reference.plain, maker)

    def tell_both(self, run, reference, maker):
        well, worth = run.stand()[1] if run.stand()[0] == "waits" else "wa", maker.plain()
        refused = reference.tell(well, worth)
        try:
            run.tell(well, worth)
            self.assertIsNone(refused)
        except (errors.TooLong, errors.TooDeep) as refusal:
            self.assertEqual(refused, (type(refusal).__name__, *vars(refusal).values()))

    def change_both(self, run, reference, maker, told):
        edits = maker.edits(reference.program)
        would = run.would(edits)
        try:
            program, wells = edited(reference.program, reference.wells, edits)
        except errors.SoError as refusal:
            self.assertEqual(would, ("refused", type(refusal).__name__, tuple(vars(refusal).values())))
            told["refused"] += 1
            return
        self.assertEqual(repr(would), repr(reference.change(program, wells)))
        if would[0] == "refused":
            with self.assertRaises(getattr(errors, would[1])):
                run.change(edits)
            told["refused"] += 1
        else:
            run.change(edits)
            told["let"] += 1
            told["taken"] += run.steps() - run.gone()


if __name__ == "__main__":
    unittest.main()
