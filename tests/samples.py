"""What several tests build programs of."""
import re

from everso.plains import Plain
from everso.programtexts import read_program

A = ("name", "a")
ONE = ("worth", 1)


def deed(*rows, takes=()):
    return (takes, rows)


def module(*rows, name="main", deeds=(), kinds=()):
    return (name, deeds, kinds, rows)


def kind(*deeds, above=None):
    return (above, deeds)


def within(*rows, takes=()):
    """The expression of a deed."""
    return ("deed", takes, rows)


def anything():
    """Things of each kind that a caller may hand in, and some as great as they may be."""
    deep_list, deep_tuple, deep_dict = [], (), {}
    for _ in range(39):
        deep_list, deep_tuple, deep_dict = [deep_list], (deep_tuple,), {"a": deep_dict}
    return (
        None, True, False, 0, 1, -1, 10 ** 39, -(10 ** 40 - 1), "", "a", "main", "A", "a\n", "\n", "-", "none",
        "abcdefghi", "a" * 8000, "(" * 40, (), (None,), (True,), (1,), ("a",), ("main",), ("a", "b"), ((),), ((), ()),
        ((), (), ()), (((), ()),), ((("a",), ()),), ([],), ({},), ([], ()), ((), []), [], [()], [[], []], ["a"],
        {}, {"a": 1}, {"main": ()}, {(): ()}, deep_list, deep_tuple, deep_dict, ((), deep_tuple), ((), (deep_tuple,)),
        (1,) * 19999, ("a",) * 19999, ((),) * 19999, ([],) * 9999, [()] * 9999,
    )


# Each expression, with all that it may have.
EXPRESSIONS = (
    A, ("name", "abcdefgh"), ("name", "main"), ("name", "none"),
    ONE, ("worth", None), ("worth", True), ("worth", False), ("worth", 0), ("worth", -(10 ** 15)),
    ("worth", ""), ("worth", "a b"), ("worth", "(a [b"), ("worth", ") ]"), ("worth", "x" * 20), ("worth", ("row", ())),
    ("worth", ("row", (1, True, ("row", ("] a", None))))), ("worth", ("row", (1,) * 40)),
    ("worth", ("row", ("thing", 5))),
    ("far", "a", "b"), ("far", "main", "a"),
    ("row", ()), ("row", (A,)), ("row", (A, ONE, A)), ("row", (ONE,) * 8), ("row", (("row", (("row", ()),)),)),
    ("word", "plus", (A, ONE)), ("word", "minus", (A, ONE)), ("word", "times", (A, ONE)), ("word", "over", (A, ONE)),
    ("word", "rest", (A, ONE)), ("word", "less", (A, ONE)), ("word", "same", (A, ONE)), ("word", "join", (A, ONE)),
    ("word", "at", (A, ONE)), ("word", "not", (A,)), ("word", "size", (A,)), ("word", "sort", (A,)),
    ("word", "plus", (("word", "plus", (ONE, ONE)), ("word", "size", (A,)))),
    ("field", A, "b"), ("has", A, "b"), ("fields", A), ("field", ("field", A, "b"), "c"),
    ("new", A, ()), ("new", A, (ONE, A)), ("new", A, (ONE,) * 8),
    ("call", A, ()), ("call", A, (ONE,)), ("call", A, (A,) * 8), ("call", ("call", A, ()), (("call", A, ()),)),
    ("send", A, "b", ()), ("send", A, "b", (ONE, A)), ("send", A, "b", (ONE,) * 8),
    ("deed", (), ()), ("deed", ("a",), (("tell", A),)), ("deed", ("a", "b", "c", "d"), ()),
    ("deed", (), (("give", "a", ONE), ("do", ("deed", ("a",), (("tell", ONE),))))),
    ("ask", "a"), ("wake", A, ONE), ("wake", ("wake", A, A), ("ask", "a")),
)

# Each row that may stand anywhere, with all that it may have.
ROWS = (
    ("let", "a", ONE), ("keep", "a", ONE), ("put", A, "b", ONE), ("out", A, "b"), ("say", A), ("do", A), ("raise", A),
    ("if", A, (), ()), ("if", A, (("say", A),), ()), ("if", A, (), (("say", A), ("do", A))),
    ("while", A, ()), ("while", A, (("say", A), ("leave",))), ("each", "a", A, ()), ("each", "a", A, (("leave",),)),
    ("try", (), None, ()), ("try", (("say", A),), None, (("do", A),)), ("try", (), ("a", ()), ()),
    ("try", (("raise", A),), ("a", (("say", A), ("do", A))), (("say", ONE),)),
)

# Those that stand only in a deed.
DEED_ROWS = (("tell", A), ("give", "a", ONE))

# A program with each expression and each row in it, in a module's rows, in deeds and in kinds.
FULL = (
    module(name="aside"),
    module(
        *ROWS, *[("do", expression) for expression in EXPRESSIONS],
        deeds=(
            ("go", deed(
                *ROWS, *DEED_ROWS, *[("let", "x", expression) for expression in EXPRESSIONS], takes=("p", "q"),
            )),
            ("goer", deed()),
        ),
        kinds=(
            ("box", kind()),
            ("crate", kind(("box", deed(*ROWS)), ("make", deed(*DEED_ROWS, takes=("self",))), above=("main", "box"))),
            ("tin", kind(above=("else", "box"))),
        ),
    ),
    module(("let", "main", ONE), name="other", deeds=(("a", deed()),), kinds=(("b", kind()),)),
)


def put_otherwise(thing, others):
    """Each thing that comes when something in thing, at any depth, gives way to one of others."""
    for other in others:
        yield other
    if isinstance(thing, tuple):
        for k, part in enumerate(thing):
            for changed in put_otherwise(part, others):
                yield thing[:k] + (changed,) + thing[k + 1:]


def as_lists(thing):
    """Each thing that comes when a tuple in thing, or thing itself, is made a list."""
    if isinstance(thing, tuple):
        yield list(thing)
        for k, part in enumerate(thing):
            for changed in as_lists(part):
                yield thing[:k] + (changed,) + thing[k + 1:]


def shortened_and_lengthened(thing):
    """Each thing that comes when thing lacks a part, or has one more."""
    for k in range(len(thing)):
        yield thing[:k] + thing[k + 1:]
    for k in range(len(thing) + 1):
        for more in (None, "b", (), ONE):
            yield thing[:k] + (more,) + thing[k:]


def text_of(text):
    """A text as it is written, of one that has more or fewer blanks around its brackets."""
    text = re.sub(r"\s+", " ", re.sub(r"\)(?=[^)\s])", ") ", text)).strip()
    return re.sub(r" (?=\))", "", re.sub(r"(?<=\() ", "", text))


def rising(text):
    """The texts in brackets of which a text is, by what they begin with."""
    groups, open_now = [""], 0
    for sign in text_of(text):
        open_now += {"(": 1, ")": -1}.get(sign, 0)
        groups[-1] += sign
        if sign == ")" and not open_now:
            groups.append("")
    return " ".join(sorted((group.strip() for group in groups if group.strip()), key=lambda group: group.split()[0]))


def program_of(rows="", deeds="", kinds="", more=()):
    """The program of a main of these texts, and of other modules' texts, in their order."""
    texts = [f"(module main ({rising(deeds)}) ({rising(kinds)}) ({rows}))", *more]
    return read_program("\n".join(sorted(text_of(text) for text in texts)))


def gone(rows="", deeds="", kinds="", more=(), wells=(), **bounds):
    """The plain run of such a program."""
    return Plain(program_of(rows, deeds, kinds, more), wells, **bounds)


def comes_to(expression, deeds="", kinds="", ahead="", **more):
    """What an expression comes to in main's rows, behind others: a worth, or ("raised", worth)."""
    plain = gone(f"{ahead} (let it {expression})", deeds, kinds, **more)
    return plain.cell("main", "it") if plain.stand() == ("ended",) else plain.stand()


def told_of(run, program):
    """All that a run tells that may be compared, but its records."""
    modules = [name for name, _, _, _ in program]
    return (
        run.sayings(), run.stand(), run.steps(), run.things(),
        tuple(run.thing(k) for k in range(run.things())),
        tuple((name, cell, run.cell(name, cell)) for name in modules for cell in run.cells(name)),
    )
