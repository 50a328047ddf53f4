"""Programs, worths and edits made by chance from a seed, so that most of what they do comes to something."""
import random

# The sort of worth that is mostly to be found under a name.
OWN = {
    "i": "number", "j": "number", "x": "number", "s": "text", "r": "row", "b": "truth", "t": "thing", "u": "thing",
    "f": "closure", "g": "giver", "h": "giver", "e": "any", "self": "thing",
}
KEPT = {"ci": "number", "cr": "row", "ct": "thing", "cg": "giver", "cf": "closure"}
SORTS = ("number", "text", "row", "truth", "thing", "closure", "giver")
# Of the modules' deeds their takes and whether they are givers'; of kinds' deeds their takes.
DEEDS = {
    ("main", "da"): (("i",), False), ("main", "db"): (("r", "j"), False), ("main", "ga"): (("i",), True),
    ("aux", "dc"): ((), False), ("aux", "gb"): (("r",), True),
}
KINDS_DEEDS = {"gen": ("self",), "get": ("self", "i"), "make": ("self", "i"), "put": ("self", "i", "e")}
KINDS = (("main", "box"), ("main", "tin"), ("aux", "pot"))
FIELDS = "abc"


def number(worth):
    return ("worth", worth)


def added(name):
    return ("let", name, ("word", "plus", (("name", name), number(1))))


class Place:
    """Where something is made: own names put so far, those around, and what may stand there."""

    def __init__(self, module, own=(), around=(), nested=0, is_deed=False, is_giver=False):
        self.module, self.own, self.around, self.nested = module, list(own), list(around), nested
        self.is_deed, self.is_giver = is_deed, is_giver

    def within(self, takes):
        return Place(self.module, takes, self.own + self.around, self.nested + 1, True)


class Maker:
    def __init__(self, seed):
        self.random = random.Random(seed)
        # How deep expressions stand within one another, and how many rows there are.
        self.size = self.random.choice((1, 1, 1, 2))

    def is_so(self, chance):
        return self.random.random() < chance

    def one_of(self, *things):
        return self.random.choice(things)

    def plain(self, deep=0):
        sort = self.random.randrange(6)
        if sort == 0 and deep < 2:
            return ("row", tuple(self.plain(deep + 1) for _ in range(self.random.randrange(3))))
        return (
            None, None, self.is_so(0.5), self.random.randrange(-3, 5), self.one_of("", "a", "thing"),
            self.one_of(0, 1, 10 ** 15),
        )[sort]

    # Expressions.

    def name(self, sort, place):
        names = [name for name, other in OWN.items() if other == sort]
        for chance, known in ((0.8, place.own), (0.3, place.around)):
            found = [name for name in known if OWN.get(name) == sort]
            if found and self.is_so(chance):
                names = found
        if self.is_so(0.2):
            names = names + [name for name, other in KEPT.items() if other == sort]
        return ("name", self.random.choice(names)) if names else number(None)

    def expression(self, sort, place, deep):
        if sort == "any" or self.is_so(0.03):
            sort = self.one_of("number", *SORTS)
        if deep <= 0:
            has_no_literal = sort in ("thing", "closure", "giver")
            return self.name(sort, place) if has_no_literal or self.is_so(0.5) else self.literal(sort)
        common = self.is_so(0.45) and self.common(sort, place, deep - 1)
        return common or getattr(self, "some_" + sort)(place, deep - 1)

    def literal(self, sort):
        worths = {
            "number": self.random.randrange(-2, 6), "text": self.one_of("", "a", "bc", "thing"),
            "truth": self.is_so(0.5),
            "row": ("row", tuple(self.plain(1) for _ in range(self.random.randrange(4)))),
        }
        return number(worths[sort])

    def common(self, sort, place, deep):
        """An expression that may come to any sort of worth."""
        which = self.random.randrange(8)
        if which == 0:
            return self.call(place, deep, False)
        if which == 1:
            name = self.one_of("get", "get", "put", "gen")
            return ("send", self.expression("thing", place, deep), name, self.those(KINDS_DEEDS[name][1:], place, deep))
        if which == 2:
            takes = self.one_of((), ("i",), ("i",))
            return ("call", self.expression("closure", place, deep), self.those(takes, place, deep))
        if which == 3:
            return ("field", self.expression("thing", place, deep), self.one_of(*FIELDS))
        if which == 4:
            return ("word", "at", (self.wake(place, deep), number(1)))
        if which == 5 and self.is_so(0.4):
            return ("ask", self.one_of("wa", "wb"))
        return self.name(sort, place)

    def those(self, takes, place, deep):
        found = tuple(self.expression(OWN[take], place, deep) for take in takes)
        return found + (number(0),) if self.is_so(0.03) else found

    def call(self, place, deep, is_giver):
        module, name = self.random.choice([deed for deed, (_, other) in DEEDS.items() if other == is_giver])
        return ("call", ("far", module, name), self.those(DEEDS[module, name][0], place, deep))

    def wake(self, place, deep):
        return ("wake", self.expression("giver", place, deep), self.expression("number", place, deep))

    def two(self, sort, place, deep):
        return (self.expression(sort, place, deep), self.expression(sort, place, deep))

    def some_number(self, place, deep):
        if self.is_so(0.3):
            return self.literal("number")
        if self.is_so(0.3):
            return ("word", "size", (self.expression(self.one_of("row", "text"), place, deep),))
        if self.is_so(0.2):
            return ("word", "at", (self.expression("row", place, deep), self.expression("number", place, deep)))
        word = self.one_of("plus", "plus", "minus", "times", "over", "rest")
        return ("word", word, self.two("number", place, deep))

    def some_text(self, place, deep):
        return self.one_of(
            self.literal("text"), ("word", "join", self.two("text", place, deep)),
            ("word", "sort", (self.expression("any", place, deep),)),
        )

    def some_truth(self, place, deep):
        return self.one_of(
            self.literal("truth"), ("word", "less", self.two("number", place, deep)),
            ("word", "same", self.two("any", place, deep)), ("word", "not", (self.expression("truth", place, deep),)),
            ("has", self.expression("thing", place, deep), self.one_of(*FIELDS)),
        )

    def some_row(self, place, deep):
        return self.one_of(
            self.literal("row"), ("row", self.two("any", place, deep)[:self.random.randrange(3)]),
            ("word", "join", self.two("row", place, deep)),
            ("fields", self.expression("thing", place, deep)), self.wake(place, deep),
        )

    def some_thing(self, place, deep):
        module, kind = self.one_of(*KINDS)
        takes = () if kind == "tin" and self.is_so(0.8) else ("i",)
        return ("new", ("far", module, kind), self.those(takes, place, deep))

    def some_closure(self, place, deep):
        if place.nested >= 2:
            return self.name("closure", place)
        takes = self.one_of((), ("i",), ("x",))
        inner = place.within(takes)
        return ("deed", takes, tuple(self.row(inner, 1, deep) for _ in range(self.random.randrange(1, 3))))

    def some_giver(self, place, deep):
        return self.call(place, deep, True)

    # Rows.

    def rows(self, place, most, bodies, deep):
        return tuple(self.row(place, bodies, deep) for _ in range(self.random.randrange(most + 1)))

    def put(self, place, name):
        if name not in place.own:
            place.own.append(name)
        return name

    def row(self, place, bodies, deep):
        if place.is_giver and self.is_so(0.2):
            return self.give(place, deep)
        if bodies and self.is_so(0.35):
            make = getattr(self, "row_" + self.one_of("if", "while", "each", "each", "try", "try"))
            return make(place, bodies - 1, deep)
        which = self.random.randrange(10)
        if which < 3:
            name = self.random.choice(sorted(OWN))
            found = ("let", name, self.expression(OWN[name], place, deep))
            self.put(place, name)
            return found
        if which == 3:
            name = self.random.choice(sorted(KEPT))
            return ("keep", name, self.expression(KEPT[name], place, deep))
        if which == 4:
            return ("say", self.expression(self.one_of("number", "text", "row"), place, deep))
        if which == 5:
            thing = self.expression("thing", place, deep)
            return ("put", thing, self.one_of(*FIELDS), self.expression("any", place, deep))
        if which == 6 and self.is_so(0.5):
            return ("out", self.expression("thing", place, deep), self.one_of(*FIELDS))
        if which == 7 and self.is_so(0.3):
            return (self.one_of("tell", "raise") if place.is_deed else "raise", self.expression("any", place, deep))
        return ("do", self.wake(place, deep) if self.is_so(0.5) else self.expression("any", place, deep))

    def give(self, place, deep):
        worth = self.expression(self.one_of("number", "any"), place, deep)
        return ("give", self.put(place, self.one_of("i", "x", "e")), worth)

    def row_if(self, place, bodies, deep):
        test = self.expression("truth", place, deep)
        return ("if", test, self.rows(place, 2, bodies, deep), self.rows(place, 2, bodies, deep))

    def row_while(self, place, bodies, deep):
        name = self.put(place, self.one_of("i", "j"))
        rows = (added(name),) + self.rows(place, 2, bodies, deep) + self.one_of((), (), (("leave",),))
        return ("while", ("word", "less", (("name", name), number(self.random.randrange(1, 4)))), rows)

    def row_each(self, place, bodies, deep):
        row = self.expression("row", place, deep)
        name = self.put(place, self.one_of("i", "x", "e"))
        return ("each", name, row, self.rows(place, 3, bodies, deep) + self.one_of((), (), (), (("leave",),)))

    def row_try(self, place, bodies, deep):
        rows = self.rows(place, 3, bodies, deep)
        caught = None
        if self.is_so(0.75):
            caught = (self.put(place, self.one_of("e", "s")), self.rows(place, 2, bodies, deep))
        return ("try", rows, caught, self.rows(place, 2, bodies, deep) if self.is_so(0.4) else ())

    def safe(self, place, rows, chance):
        """Rows, most of them in a try of their own."""
        self.put(place, "e")
        caughts = (("e", ()), ("e", (("say", ("name", "e")),)))
        return tuple(("try", (row,), self.one_of(*caughts), ()) if self.is_so(chance) else row for row in rows)

    def giving(self, place):
        """Rows of a giver that surely give, in bodies of each sort."""
        give, other = self.give(place, 1), self.give(place, 1)
        rows = self.rows(place, 1, 1, 0)
        return self.one_of(
            (give, other),
            (("each", "x", number(("row", (1, 2, 3))), rows + (give,)),),
            (("try", rows, ("e", (give,)), (other,)), give),
            (("each", "x", number(("row", (1, 2))), (("try", self.one_of(rows, (("leave",),)), None, rows + (give,)),)),
                ),
            (("try", (("each", "x", number(("row", (1, 2))), (give,)),), None,
                (("each", "x", number(("row", (3,))), (other,)),)),),
            (("let", "j", number(0)),
                ("while", ("word", "less", (("name", "j"), number(3))), (added("j"), give) + rows)),
            (("if", number(self.is_so(0.5)), (give,), (("try", (other, ("raise", number(1))), ("e", (give,)), ()),)),),
        )

    # Programs.

    def deed(self, module, takes, is_giver):
        place = Place(module, takes, is_deed=True, is_giver=is_giver)
        rows = self.safe(place, self.rows(place, self.size + 1, self.size, self.size), 0.4)
        return (takes, (self.giving(place) if is_giver else ()) + rows)

    def kind(self, above, *names):
        return (above, tuple((name, self.deed("main", KINDS_DEEDS[name], name == "gen")) for name in names))

    def begun(self, place):
        """Rows by which there are worths under some names."""
        rows = [
            ("let", "g", ("call", ("far", "main", "ga"), (number(1),))),
            ("let", "h", ("call", ("far", "aux", "gb"), (number(("row", (1, 2))),))),
            ("let", "t", ("new", ("far", "main", "box"), (number(1),))),
            ("let", "i", number(0)), ("let", "r", number(("row", (1, "a")))),
            ("let", "f", self.some_closure(place, 1)), ("keep", "cg", ("name", "g")),
        ]
        rows = [row for row in rows if self.is_so(0.7)]
        for k in range(self.random.randrange(4)):
            rows.append(("say", ("word", "at", (("wake", ("name", self.one_of("g", "h")), number(k)), number(1)))))
        for row in rows:
            self.put(place, row[1] if row[0] == "let" else "e")
        return rows

    def main_rows(self, most):
        place = Place("main")
        rows = self.begun(place) + list(self.rows(place, most, self.size + 1, self.size + 1))
        return self.safe(place, rows, 0.95)

    def program(self):
        deeds = {"aux": (), "main": ()}
        for module, name in sorted(DEEDS):
            deeds[module] += ((name, self.deed(module, *DEEDS[module, name])),)
        above = self.one_of(None, ("aux", "pot"), ("no", "such"))
        box = self.kind(None, *self.one_of(("make",), ("get", "make"), ("gen", "get", "make", "put")))
        pot = self.kind(self.one_of(None, ("main", "box"), ("main", "tin")), *self.one_of((), ("get",), ("make",)))
        place = Place("aux")
        aux = ("aux", deeds["aux"], (("pot", pot),), self.safe(place, self.rows(place, 1, 1, 1), 0.95))
        tin = self.kind(above, *self.one_of((), ("get",), ("gen", "put")))
        return (aux, ("main", deeds["main"], (("box", box), ("tin", tin)), self.main_rows(5)))

    def edit(self, program):
        which = self.random.randrange(7)
        if which < 2:
            module, name = self.random.choice(sorted(DEEDS))
            return ("deed", module, name, self.deed(module, *DEEDS[module, name]))
        if which == 2:
            return ("kind", "main", "box", self.kind(None, *self.one_of(("make",), ("gen", "get", "make"))))
        if which == 3:
            return ("told", self.one_of("wa", "wb"), self.random.randrange(2), self.plain())
        if which == 4:
            return ("deed", "main", "more", self.one_of(None, ((), ())))
        rows = list(program[-1][3])
        at = self.random.randrange(len(rows) + 1)
        rows[at:at + self.random.randrange(2)] = self.rows(Place("main"), 1, 1, 1)
        return ("rows", "main", tuple(rows))

    def edits(self, program):
        return tuple(self.edit(program) for _ in range(self.one_of(1, 1, 1, 2)))
