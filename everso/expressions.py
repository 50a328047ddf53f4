"""Expressions that come to a worth at once, by the worths of their parts."""

from everso.raising import NotSo, Raising
from everso.words import row_of, word_done
from everso.worths import is_thing, is_whole


def worth_now(machine, text, worths):
    """Tell the worth of an expression of one of these words."""
    tell = TELLERS[text[0]]
    return tell(machine, text, worths)


def is_told_now(text):
    """Tell whether an expression comes to a worth at once."""
    return text[0] in TELLERS


def worth_at(machine, place):
    """Tell the worth that is read at a place; `lacks` is raised where none is."""
    was = machine.store.read(place)
    if was == ():
        raise Raising("lacks")
    return was[0]


def sort_read(machine, worth):
    """Tell the sort of the thing that a worth is, None where it is none."""
    if not is_thing(worth):
        return None
    return machine.store.read(("sort", worth[1]))[0]


def kind_read(machine, worth):
    """Tell the kind of the thing that a worth is; `kind` is raised of all other worths."""
    sort = sort_read(machine, worth)
    if sort is None or sort[0] != "kind":
        raise Raising("kind")
    return sort


def names_read(machine, worth):
    """Tell the names of the fields of the thing of a kind that a worth is."""
    kind_read(machine, worth)
    return machine.store.read(("names", worth[1]))[0]


def tell_worth(machine, text, worths):
    """Tell the worth that stands in the text."""
    return text[1]


def tell_row(machine, text, worths):
    """Tell the row of the worths."""
    return row_of(worths)


def tell_word(machine, text, worths):
    """Tell what a word makes of the worths."""
    if text[1] == "sort":
        sort = sort_read(machine, worths[0])
        if sort is not None:
            return "deed" if sort[0] == "closure" else "thing"
    return word_done(text[1], worths)


def tell_own(machine, text, worths):
    """Tell a field of the going room."""
    return worth_at(machine, ("field", machine.room, text[1]))


def tell_around(machine, text, worths):
    """Tell a field of the k-th room outwards."""
    _, k, name = text
    room = machine.room
    for _ in range(k):
        room = machine.store.read(("up", room))[0]
        # A led text of a program never leads beyond the last room; that of a record may.
        if not is_whole(room):
            raise NotSo()
    return worth_at(machine, ("field", room, name))


def tell_cell(machine, text, worths):
    """Tell what a module calls so."""
    _, module, name = text
    return worth_at(machine, ("cell", module, name))


def tell_field(machine, text, worths):
    """Tell a field of a thing of a kind."""
    kind_read(machine, worths[0])
    return worth_at(machine, ("field", worths[0][1], text[2]))


def tell_has(machine, text, worths):
    """Tell whether a thing of a kind has a field."""
    kind_read(machine, worths[0])
    return machine.store.read(("field", worths[0][1], text[2])) != ()


def tell_fields(machine, text, worths):
    """Tell the row of the names of a thing's fields."""
    return row_of(names_read(machine, worths[0]))


def tell_deed(machine, text, worths):
    """Make a closure; tell it."""
    return ("thing", machine.store.make(("closure",), (text[1:], machine.room)))


def tell_ask(machine, text, worths):
    """Tell the next worth of a well that has one."""
    well = text[1]
    many = machine.store.read(("asked", well))[0]
    worth = machine.store.read(("told", well, many))[0]
    machine.store.do(("asked", well, many + 1))
    return worth


TELLERS = {
    "worth": tell_worth,
    "row": tell_row,
    "word": tell_word,
    "own": tell_own,
    "around": tell_around,
    "cell": tell_cell,
    "far": tell_cell,
    "field": tell_field,
    "has": tell_has,
    "fields": tell_fields,
    "deed": tell_deed,
    "ask": tell_ask,
}
