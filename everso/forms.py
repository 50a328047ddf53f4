"""The forms of programs: what each expression and row has behind its word, in order.

What it has stands here by its slot:

- `name` is a name that stands for itself (what a word does is one), `own` that of a let, an
  each, a give, a caught, `kept` that of a keep; `worth` is a plain worth;
- `one` is an expression, `many` are es;
- `rows` are a body, `turns` one of a while or an each, `inner` the rows of a deed.
"""

EXPRESSIONS = {
    "worth": ("worth",),
    "name": ("name",),
    "far": ("name", "name"),
    "row": ("many",),
    "word": ("name", "many"),
    "field": ("one", "name"),
    "has": ("one", "name"),
    "fields": ("one",),
    "new": ("one", "many"),
    "call": ("one", "many"),
    "send": ("one", "name", "many"),
    "deed": ("takes", "inner"),
    "ask": ("name",),
    "wake": ("one", "one"),
}

# What stands in a led text in the place of a name; `outwards` is the number of a deed around.
LED_NAMES = {
    "own": ("name",),
    "around": ("outwards", "name"),
    "cell": ("name", "name"),
}

ROWS = {
    "let": ("own", "one"),
    "keep": ("kept", "one"),
    "put": ("one", "name", "one"),
    "out": ("one", "name"),
    "say": ("one",),
    "do": ("one",),
    "tell": ("one",),
    "raise": ("one",),
    "leave": (),
    "give": ("own", "one"),
    "if": ("one", "rows", "rows"),
    "while": ("one", "turns"),
    "each": ("own", "one", "turns"),
    "try": ("rows", "caught", "rows"),
}

# Of what a word does, how many expressions it takes.
VERBS = {
    "plus": 2,
    "minus": 2,
    "times": 2,
    "over": 2,
    "rest": 2,
    "less": 2,
    "same": 2,
    "join": 2,
    "at": 2,
    "not": 1,
    "size": 1,
    "sort": 1,
}

# What has no word: tuples of so many things each.
TUPLES = {
    "caught": ("own", "rows"),
    "deed": ("takes", "inner"),
    "above": ("name", "name"),
    "kind": ("above", "deeds"),
    "module": ("name", "deeds", "kinds", "rows"),
}

# Those of them in the place of which None may stand.
PERHAPS = ("caught", "above")

# Tuples of any length, by the slot of all their parts.
LISTS = {
    "many": "one",
    "rows": "row",
    "turns": "row",
    "inner": "row",
}

# Tuples of pairs of a name and what it names, by the slot of that.
NAMED = {
    "deeds": "deed",
    "kinds": "kind",
}
