"""Another reading of what a Run is: each deed goes its program anew, and which records it has is kept aside."""
from reference import OF_THINGS, Reference, Refused


def led(kind, thing, put):
    """A thing of a kind, with put(k) in the place of each number of a thing, from left to right."""
    if kind == "worth":
        if isinstance(thing, tuple) and thing[0] == "thing":
            return ("thing", put(thing[1]))
        if isinstance(thing, tuple) and thing[0] == "row":
            return ("row", tuple(led("worth", part, put) for part in thing[1]))
        return thing
    if kind == "room":
        return thing if thing is None else put(thing)
    if kind == "up":
        return (thing[0], led("room", thing[1], put)) if isinstance(thing, tuple) else led("room", thing, put)
    if kind == "end":
        return thing[:1] + tuple(led("worth", worth, put) for worth in thing[1:])
    if kind == "frame":
        return thing[:2] + tuple(tuple(led("loop", loop, put) for loop in loops) for loops in thing[2:])
    if kind == "loop":
        if len(thing) == 1:
            return (led("end", thing[0], put),)
        return (tuple(led("worth", part, put) for part in thing[0]), thing[1])
    if kind == "place":
        return thing[:1] + (put(thing[1]),) + thing[2:] if thing[0] in OF_THINGS else thing
    return thing


def led_was(place, was, put):
    kind = {"field": "worth", "cell": "worth", "up": "up", "frame": "frame"}.get(place[0], "plain")
    return tuple(led(kind, thing, put) for thing in was)


def led_handed(text, handed, put):
    if text[0] == "module":
        return ()
    if text[0] == "deed":
        return (led("room", handed[0], put), tuple(led("worth", worth, put) for worth in handed[1]))
    return (led("room", handed[0], put), led("worth", handed[1], put))


def match(lead, one, other, leads):
    """Whether two things match that lead(thing, put) leads, by a map that grows."""
    numbers, others = [], []

    def put(k):
        numbers.append(k)
        return "a thing"

    def put_other(k):
        others.append(k)
        return "a thing"
    if repr(lead(one, put)) != repr(lead(other, put_other)):
        return False
    for number, led_to in zip(numbers, others):
        if number not in leads and led_to not in leads.values():
            leads[number] = led_to
        if leads.get(number) != led_to:
            return False
    return True


def holds(run, record, text, handed):
    """The map by which a record holds where a stretch begins, None where it doesn't."""
    if repr(record[0]) != repr(text) or run.steps + record[5] > run.most or run.standing + record[6] > run.deep:
        return None
    leads = {}
    if not match(lambda thing, put: led_handed(text, thing, put), record[1], handed, leads):
        return None
    for place, was in record[2]:
        now = run.there(led("place", place, lambda k: leads[k]))
        if not match(lambda thing, put: led_was(place, thing, put), was, now, leads):
            return None
    return leads


class ReferenceRun:
    """What a Run tells, by plain runs alone; has tells of each stretch whether the Run has its record."""

    def __init__(self, program, most, deep, keep):
        self.program, self.wells, self.most, self.deep, self.keep = program, {}, most, deep, keep
        self.plain = Reference(program, {}, most, deep)
        self.has = [stretch.record is not None for stretch in self.plain.stretches]
        self.gone = self.spoken = 0
        self.let_go()

    def numbers(self):
        return [number for number, has in enumerate(self.has) if has]

    def let_go(self):
        steps = {number: self.plain.stretches[number].record[5] for number in self.numbers()}
        while len(steps) > self.keep:
            number = min(steps, key=lambda number: (steps[number], -number))
            del steps[number]
            self.has[number] = False

    def records(self):
        numbers = self.numbers()
        found = []
        for number in numbers:
            outer = self.plain.stretches[number].outer
            while outer is not None and outer not in numbers:
                outer = self.plain.stretches[outer].outer
            found.append((None if outer is None else numbers.index(outer), self.plain.stretches[number].record))
        return tuple(found)

    def tell(self, well, worth):
        """Tell a worth; the refusal is told where it is one, else None."""
        wells = {**self.wells, well: self.wells.get(well, ()) + (worth,)}
        try:
            plain = Reference(self.program, wells, self.most, self.deep)
        except Refused as refused:
            return refused.args
        ended = [stretch.record is not None for stretch in self.plain.stretches]
        has = [stretch.record is not None for stretch in plain.stretches]
        for number, had_ended in enumerate(ended):
            if had_ended:
                has[number] = self.has[number]
        self.has = has
        self.plain, self.wells = plain, wells
        self.let_go()
        return None

    def taker(self, taken):
        """What takes the first record that holds, once at most, and none around or within one taken."""
        stretches, numbers = self.plain.stretches, self.numbers()

        def take(run, text, handed):
            for number in numbers:
                if any(one <= number < stretches[one].last or number <= one < stretches[number].last for one in taken):
                    continue
                if holds(run, stretches[number].record, text, handed) is not None:
                    taken.append(number)
                    return number
            return None
        return take

    def change(self, program, wells):
        """Change to a program and wells; told is what would tells."""
        taken = []
        try:
            plain = Reference(program, wells, self.most, self.deep, self.taker(taken))
        except Refused as refused:
            return ("refused", refused.args[0], refused.args[1:])
        for k, one in enumerate(self.plain.said[:self.spoken]):
            other = tuple(plain.said[k:k + 1])
            if repr(other) != repr((one,)):
                return ("refused", "Said", (k, (one,), other))
        self.has = self.had(plain)
        self.gone = plain.steps - sum(self.plain.stretches[number].record[5] for number in taken)
        self.plain, self.program, self.wells = plain, program, wells
        self.let_go()
        return ("let", tuple(plain.said), plain.stand, self.gone)

    def had(self, plain):
        """Of each stretch of a changed run whether there is a record; those in a taken one are as they were."""
        has = [stretch.record is not None for stretch in plain.stretches]
        for stretch in plain.stretches:
            if stretch.taken is not None:
                was = self.plain.stretches[stretch.taken]
                assert (was.record[5:], was.last - was.number) == (stretch.record[5:], stretch.last - stretch.number)
                has[stretch.number + 1:stretch.last] = self.has[was.number + 1:was.last]
        return has
