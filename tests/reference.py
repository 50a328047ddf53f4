"""Another reading of the document, to compare the program with.

It goes by Python's own calls and generators, keeps things as objects, writes the records of all
stretches straight as it goes, and goes whole runs anew for each deed of a Run. Only names are
led by the program itself.
"""
from everso.leading import led_deed, led_rows
from everso.worths import is_plain, is_worth

OF_THINGS = ("field", "names", "sort", "up", "frame")


class Raised(Exception):
    """A worth is raised."""


class Told(Exception):
    """A deed tells a worth."""


class Left(Exception):
    """A loop is left."""


class Waits(Exception):
    """A well has no worth yet."""


class Refused(Exception):
    """The run goes beyond a bound: the refusal's name, and the bound."""


def bodies_of(row):
    if row[0] == "try":
        return (row[1], row[2][1] if row[2] else (), row[3])
    return {"if": row[2:], "while": row[2:], "each": row[3:]}.get(row[0], ())


def bears_give(rows):
    return any(row[0] == "give" or any(bears_give(body) for body in bodies_of(row)) for row in rows)


def end_of(came):
    """The end of rows by what broke them off, None where nothing did."""
    if came is None:
        return ("on",)
    if isinstance(came, Left):
        return ("left",)
    return ("told" if isinstance(came, Told) else "raised", came.args[0])


class Stretch:
    """A stretch under way, then one with its record."""

    def __init__(self, run, text, handed):
        self.text, self.handed = text, handed
        self.number = len(run.stretches)
        self.outer = run.under_way[-1].number if run.under_way else None
        self.reads, self.effects, self.known = [], [], set()
        self.first, self.steps, self.stood, self.highest = len(run.things), run.steps, run.standing, run.standing
        self.is_within_taken = any(stretch.taken is not None for stretch in run.under_way)
        self.taken = None
        self.record = None

    def close(self, run, end):
        assert run.under_way.pop() is self
        self.last = len(run.stretches)
        self.record = (
            self.text, self.handed, tuple(self.reads), tuple(self.effects), end,
            run.steps - self.steps, self.highest - self.stood,
        )


class Reference:
    """A plain run, with all of its stretches; take is asked for each stretch that may be taken."""

    def __init__(self, program, wells, most, deep, take=None):
        self.modules = {name: (dict(deeds), dict(kinds), rows) for name, deeds, kinds, rows in program}
        self.wells, self.most, self.deep, self.take = dict(wells), most, deep, take
        self.cells = {name: {} for name in self.modules}
        self.things, self.said, self.trace, self.asked = [], [], [], {}
        self.steps = self.standing = 0
        self.stretches, self.under_way = [], []
        self.stand = self.go()

    def go(self):
        try:
            for name in sorted(self.modules, key=lambda name: (name == "main", name)):
                rows = led_rows(name, self.modules[name][2])
                self.drain(self.stretch(("module", rows), (), self.rows(rows, None, [])))
        except Raised as raised:
            return ("raised", raised.args[0])
        except Waits as waits:
            return ("waits", waits.args[0])
        return ("ended",)

    def drain(self, going):
        """Go what never gives."""
        for _ in going:
            raise AssertionError("a give")

    # What is there, read and done.

    def there(self, place):
        word, *parts = place
        if word in OF_THINGS:
            return self.there_of_thing(word, *parts)
        if word == "asked":
            return (self.asked.get(parts[0], 0),)
        if word == "told":
            return self.wells.get(parts[0], ())[parts[1]:parts[1] + 1]
        deeds, kinds, _ = self.modules.get(parts[0], ({}, {}, ()))
        name = parts[1]
        if word == "cell":
            if name in deeds or name in kinds:
                return (("deed" if name in deeds else "kind", *parts),)
            cells = self.cells.get(parts[0], {})
            return (cells[name],) if name in cells else ()
        if word == "deed":
            return (led_deed(parts[0], deeds[name]),) if name in deeds else ()
        return self.there_of_chain((parts[0], name), parts[2], [])

    def there_of_thing(self, word, k, *name):
        if k >= len(self.things):
            return ()
        thing = self.things[k]
        if word == "field":
            return tuple(worth for other, worth in thing.get("fields", {}).items() if other == name[0])
        if word == "names":
            return (tuple(thing["fields"]),) if thing["sort"][0] == "kind" else ()
        return (thing[word],) if word in thing else ()

    def there_of_chain(self, kind, name, gone):
        _, kinds, _ = self.modules.get(kind[0], ({}, {}, ()))
        if kind in gone or kind[1] not in kinds:
            return ()
        above, deeds = kinds[kind[1]]
        if name in dict(deeds):
            return (led_deed(kind[0], dict(deeds)[name]),)
        return self.there_of_chain(above, name, gone + [kind]) if above else ()

    def read(self, place):
        was = self.there(place)
        for stretch in self.under_way:
            is_made_within = place[0] in OF_THINGS and place[1] >= stretch.first
            if place not in stretch.known and not is_made_within:
                stretch.known.add(place)
                stretch.reads.append((place, was))
        return was

    def get(self, place):
        was = self.read(place)
        if not was:
            raise Raised("lacks")
        return was[0]

    def done(self, effect, *written):
        for stretch in self.under_way:
            stretch.effects.append(effect)
            stretch.known.update(written)

    def make(self, sort, up, **more):
        k = len(self.things)
        self.things.append({"sort": sort, **more} if sort[0] == "kind" else {"sort": sort, "up": up, **more})
        self.done(("make", k, sort, up))
        return k

    def make_room(self, deed, around, worths):
        room = self.make(("room",), around, fields={})
        for take, worth in zip(deed[0], worths):
            self.put_field(room, take, worth)
        return room

    def put_field(self, k, name, worth):
        self.things[k]["fields"][name] = worth
        self.done(("field", k, name, worth), ("field", k, name))

    def put_name(self, room, name, worth):
        if name[0] == "own":
            self.put_field(room, name[1], worth)
        else:
            self.cells[name[1]][name[2]] = worth
            self.done(name + (worth,), name)

    def put_frame(self, k, frame):
        self.things[k]["frame"] = frame
        self.done(("frame", k, frame), ("frame", k))

    # Steps, and what stands upon one another.

    def step(self):
        if self.steps == self.most:
            raise Refused("TooLong", self.most)
        self.trace.append(self.counts())
        self.steps += 1

    def counts(self):
        return (len(self.said), len(self.things), self.standing)

    def stand_upon(self):
        if self.standing == self.deep:
            raise Refused("TooDeep", self.deep)
        self.standing += 1
        for stretch in self.under_way:
            stretch.highest = max(stretch.highest, self.standing)

    def begin(self, text, handed):
        stretch = Stretch(self, text, handed)
        self.stretches.append(stretch)
        if self.take and not stretch.is_within_taken:
            stretch.taken = self.take(self, text, handed)
        self.under_way.append(stretch)
        return stretch

    def stretch(self, text, handed, going):
        """Go something as a stretch; going may end it with a word of its own."""
        stretch = self.begin(text, handed)
        end = None
        try:
            end = yield from going
        except (Raised, Told, Left) as came:
            stretch.close(self, end_of(came))
            raise
        stretch.close(self, end or ("on",))
        return end

    # Rows. A spot is where the going deed is: numbers of rows, and (body, what is held) between.

    def rows(self, rows, room, spot):
        for number, row in enumerate(rows):
            spot.append(number)
            self.step()
            go = getattr(self, "go_" + row[0])
            yield from go(row, room, spot)
            spot.pop()

    def body(self, rows, room, spot, number, *held, text=None, handed=None, ahead=None):
        mark = len(spot)
        spot.append((number, *held))
        going = self.rows_behind(ahead, rows, room, spot)
        if rows and not bears_give(rows):
            going = self.stretch(text or ("rows", rows), handed or (room, None), going)
        try:
            yield from going
        finally:
            del spot[mark:]

    def rows_behind(self, ahead, rows, room, spot):
        if ahead:
            self.put_name(room, *ahead)
        yield from self.rows(rows, room, spot)

    def go_let(self, row, room, spot):
        self.put_name(room, row[1], self.come(row[2], room))
        yield from ()

    def go_put(self, row, room, spot):
        thing, worth = self.come(row[1], room), self.come(row[3], room)
        self.kind(thing)
        self.read(("names", thing[1]))
        self.put_field(thing[1], row[2], worth)
        yield from ()

    def go_out(self, row, room, spot):
        thing = self.come(row[1], room)
        self.kind(thing)
        if row[2] not in self.read(("names", thing[1]))[0]:
            raise Raised("lacks")
        del self.things[thing[1]]["fields"][row[2]]
        self.done(("out", thing[1], row[2]), ("field", thing[1], row[2]))
        yield from ()

    def go_say(self, row, room, spot):
        worth = self.come(row[1], room)
        if not is_plain(worth):
            raise Raised("kind")
        self.said.append(worth)
        self.done(("say", worth))
        yield from ()

    def go_do(self, row, room, spot):
        self.come(row[1], room)
        yield from ()

    def go_tell(self, row, room, spot):
        raise Told(self.come(row[1], room))
        yield

    def go_raise(self, row, room, spot):
        raise Raised(self.come(row[1], room))
        yield

    def go_leave(self, row, room, spot):
        raise Left()
        yield

    def go_give(self, row, room, spot):
        worth = self.come(row[2], room)
        path, loops = [], []
        for part in spot:
            if isinstance(part, int):
                path.append((part,))
            else:
                path[-1] += part[:1]
                loops += part[1:]
        given = yield worth, ("gave", tuple(path), tuple(loops))
        self.put_name(room, row[1], given)

    def truth(self, expression, room):
        test = self.come(expression, room)
        if not isinstance(test, bool):
            raise Raised("kind")
        return test

    def go_if(self, row, room, spot):
        number = 0 if self.truth(row[1], room) else 1
        yield from self.body(row[2 + number], room, spot, number)

    def go_while(self, row, room, spot):
        yield from self.turns(row, room, spot, self.while_turns(row, room, spot))

    def while_turns(self, row, room, spot):
        while True:
            yield None, self.while_turn(row, room, spot)

    def while_turn(self, row, room, spot):
        self.step()
        if not self.truth(row[1], room):
            return ("over",)
        spot.append((0,))
        yield from self.rows(row[2], room, spot)

    def go_each(self, row, room, spot):
        worths = self.come(row[2], room)
        if not (isinstance(worths, tuple) and worths[0] == "row"):
            raise Raised("kind")
        turns = [(part, self.each_turn(row, room, spot, worths[1], number)) for number, part in enumerate(worths[1])]
        yield from self.turns(row, room, spot, turns)

    def each_turn(self, row, room, spot, parts, number):
        self.step()
        self.put_name(room, row[1], parts[number])
        spot.append((0, (parts, number)))
        yield from self.rows(row[3], room, spot)

    def turns(self, row, room, spot, turns):
        mark = len(spot)
        for part, going in turns:
            if not bears_give(row[-1]):
                going = self.stretch(("turn", row), (room, part), going)
            try:
                end = yield from going
            except Left:
                break
            finally:
                del spot[mark:]
            if end:
                break

    def go_try(self, row, room, spot):
        _, rows, caught, last = row
        came = None
        try:
            try:
                yield from self.body(rows, room, spot, 0)
            except Raised as raised:
                if caught is None:
                    raise
                worth = raised.args[0]
                stretch = {"text": ("caught", *caught), "handed": (room, worth), "ahead": (caught[0], worth)}
                yield from self.body(caught[1], room, spot, 1, **stretch)
        except (Raised, Told, Left) as end:
            came = end
        yield from self.body(last, room, spot, 2, (end_of(came),))
        if came:
            raise came

    # Expressions.

    def come(self, expression, room):
        """The worth that an expression comes to."""
        self.step()
        word = expression[0]
        simple = getattr(self, "come_" + word, None)
        if simple:
            return simple(expression, room)
        if word in ("row", "word"):
            worths = [self.come(part, room) for part in expression[-1]]
            return self.row(worths) if word == "row" else self.word(expression[1], worths)
        others = (expression[2],) if word == "wake" else expression[-1] if word in ("new", "call", "send") else ()
        worths = [self.come(part, room) for part in (expression[1], *others)]
        return getattr(self, "do_" + word)(expression, worths)

    def come_worth(self, expression, room):
        return expression[1]

    def come_own(self, expression, room):
        return self.get(("field", room, expression[1]))

    def come_around(self, expression, room):
        for _ in range(expression[1]):
            room = self.read(("up", room))[0]
        return self.get(("field", room, expression[2]))

    def come_cell(self, expression, room):
        return self.get(("cell", *expression[1:]))

    come_far = come_cell

    def come_deed(self, expression, room):
        return ("thing", self.make(("closure",), (expression[1:], room)))

    def come_ask(self, expression, room):
        well = expression[1]
        many = self.asked.get(well, 0)
        if many >= len(self.wells.get(well, ())):
            raise Waits(well)
        self.read(("asked", well))
        worth = self.read(("told", well, many))[0]
        self.asked[well] = many + 1
        self.done(("asked", well, many + 1), ("asked", well))
        return worth

    def row(self, worths):
        row = ("row", tuple(worths))
        if not is_worth(row):
            raise Raised("great")
        return row

    def sort(self, worth):
        return self.read(("sort", worth[1]))[0] if isinstance(worth, tuple) and worth[0] == "thing" else (None,)

    def kind(self, worth):
        sort = self.sort(worth)
        if sort[0] != "kind":
            raise Raised("kind")
        return sort

    def do_field(self, expression, worths):
        self.kind(worths[0])
        return self.get(("field", worths[0][1], expression[2]))

    def do_has(self, expression, worths):
        self.kind(worths[0])
        return bool(self.read(("field", worths[0][1], expression[2])))

    def do_fields(self, expression, worths):
        self.kind(worths[0])
        return self.row(self.read(("names", worths[0][1]))[0])

    def do_new(self, expression, worths):
        kind = worths[0]
        if not (isinstance(kind, tuple) and kind[0] == "kind"):
            raise Raised("kind")
        thing = ("thing", self.make(kind, None, fields={}))
        make = self.read(("chain", *kind[1:], "make"))
        if make:
            self.call(make[0], None, [thing] + worths[1:])
        elif worths[1:]:
            raise Raised("many")
        return thing

    def do_call(self, expression, worths):
        called = worths[0]
        sort = self.sort(called)
        if isinstance(called, tuple) and called[0] == "deed":
            return self.call(self.get(called), None, worths[1:])
        if sort != ("closure",):
            raise Raised("kind")
        deed, around = self.read(("up", called[1]))[0]
        return self.call(deed, around, worths[1:])

    def do_send(self, expression, worths):
        kind = self.kind(worths[0])
        return self.call(self.get(("chain", *kind[1:], expression[2])), None, worths)

    def call(self, deed, around, worths):
        if len(deed[0]) != len(worths):
            raise Raised("many")
        if bears_give(deed[1]):
            room = self.make_room(deed, around, worths)
            return ("thing", self.make(("giver",), (deed, room), frame=("new",), going=None))
        stretch = self.begin(("deed", deed), (around, tuple(worths)))
        self.stand_upon()
        end = ("told", None)
        try:
            self.drain(self.rows(deed[1], self.make_room(deed, around, worths), []))
        except (Told, Raised) as came:
            end = end_of(came)
        self.standing -= 1
        stretch.close(self, end)
        return self.worth_of(end)

    def worth_of(self, end):
        if end[0] == "raised":
            raise Raised(end[1])
        return end[1]

    def do_wake(self, expression, worths):
        giver, worth = worths
        if self.sort(giver) != ("giver",):
            raise Raised("kind")
        k, thing = giver[1], self.things[giver[1]]
        for word, why in (("going", "runs"), ("ended", "ended")):
            if thing["frame"] == (word,):
                self.read(("frame", k))
                raise Raised(why)
        stretch = self.begin(("wake", thing["up"][0]), (k, worth))
        self.read(("frame", k))
        self.read(("up", k))
        self.stand_upon()
        self.put_frame(k, ("going",))
        end, frame = self.woken(thing, worth)
        self.put_frame(k, frame)
        self.standing -= 1
        stretch.close(self, end)
        return self.row((end[0] == "gave", self.worth_of(end)))

    def woken(self, thing, worth):
        """How a waking ends, and the giver's frame then."""
        (_, rows), room = thing["up"]
        try:
            if thing["going"] is None:
                thing["going"] = self.rows(rows, room, [])
                given, frame = next(thing["going"])
            else:
                given, frame = thing["going"].send(worth)
        except StopIteration:
            return ("told", None), ("ended",)
        except (Told, Raised) as came:
            return end_of(came), ("ended",)
        return ("gave", given), frame

    def word(self, verb, worths):
        one, other = worths[0], worths[-1]
        sorts = [self.plain_sort(worth) for worth in worths]
        if verb == "sort":
            return {"closure": "deed"}.get(self.sort(one)[0], "thing") if sorts[0] == "thing" else sorts[0]
        if verb == "same":
            return repr(one) == repr(other)
        if verb == "not" and sorts == ["truth"]:
            return not one
        if verb == "size" and sorts[0] in ("text", "row"):
            return len(one if sorts[0] == "text" else one[1])
        if verb == "at" and sorts == ["row", "number"]:
            if other not in range(len(one[1])):
                raise Raised("beyond")
            return one[1][other]
        if verb == "less" and sorts in (["number"] * 2, ["text"] * 2):
            return one < other
        if verb == "join" and sorts == ["row"] * 2:
            return self.row(one[1] + other[1])
        if verb == "join" and sorts == ["text"] * 2:
            return self.bounded(one + other)
        if verb in ("plus", "minus", "times", "over", "rest") and sorts == ["number"] * 2:
            return self.number(verb, one, other)
        raise Raised("kind")

    def plain_sort(self, worth):
        if isinstance(worth, tuple):
            return worth[0]
        return {type(None): "none", bool: "truth", int: "number", str: "text"}[type(worth)]

    def number(self, verb, one, other):
        if verb in ("over", "rest"):
            if other == 0:
                raise Raised("nought")
            return divmod(one, other)[verb == "rest"]
        return self.bounded(one + other if verb == "plus" else one - other if verb == "minus" else one * other)

    def bounded(self, worth):
        if not is_worth(worth):
            raise Raised("great")
        return worth

    # What is told.

    def thing(self, k):
        sort = self.things[k]["sort"]
        return (sort, tuple(self.things[k]["fields"].items())) if sort[0] == "kind" else sort

    def all_told(self):
        return (
            tuple(self.said), self.stand, self.steps, len(self.things),
            tuple(self.thing(k) for k in range(len(self.things))),
            tuple((name, cell, worth) for name in sorted(self.modules) for cell, worth in self.cells[name].items()),
        )
