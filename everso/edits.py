"""Edits: which things are some, and what a program and its wells are behind them."""

from everso.errors import NoEdit, NoProgram
from everso.places import is_number
from everso.programs import all_parts, is_module, is_program, word_of

MOST_EDITS = 8

# What an edit has behind its word, in order, by the slots of programs, and a number.
EDITS = {
    "deed": ("name", "name", "deed"),
    "kind": ("name", "name", "kind"),
    "rows": ("name", "rows"),
    "module": ("name", "module"),
    "told": ("name", "number", "worth"),
}
# Those of them in the place of which None may stand.
PERHAPS = ("deed", "kind", "module")


def check_edits(edits):
    """Raise NoEdit where something isn't several edits by their forms."""
    if not isinstance(edits, tuple) or len(edits) > MOST_EDITS:
        raise NoEdit(-1)
    for k, edit in enumerate(edits):
        if not is_edit(edit):
            raise NoEdit(k)


def is_edit(thing):
    """Tell whether a thing is an edit by its form."""
    slots = EDITS.get(word_of(thing))
    if slots is None or len(thing) != len(slots) + 1:
        return False
    if not all(is_in_slot(slot, part) for slot, part in zip(slots, thing[1:])):
        return False
    return thing[0] != "module" or thing[2] is None or thing[2][0] == thing[1]


def is_in_slot(slot, part):
    """Tell whether a part of an edit is what its slot asks for."""
    if part is None and slot in PERHAPS:
        return True
    if slot == "number":
        return is_number(part)
    if slot == "module":
        return is_module(part)
    return all_parts(slot, part) is not None


class Draft:
    """A program and its wells while edits are made."""

    def __init__(self, program, wells):
        self.modules = {name: (deeds, kinds, rows) for name, deeds, kinds, rows in program}
        self.worths = {name: wells[name] for name in wells}

    def program(self):
        """Tell the program."""
        return tuple([(name,) + self.modules[name] for name in sorted(self.modules)])


# Each maker of an edit tells whether what it needs is there; else it makes nothing.


def make_deed(draft, module, name, deed):
    """Put a deed of a module, or take it out."""
    if module not in draft.modules:
        return False
    deeds, kinds, rows = draft.modules[module]
    if deed is None and not has_name(deeds, name):
        return False
    draft.modules[module] = (put_in(deeds, name, deed), kinds, rows)
    return True


def make_kind(draft, module, name, kind):
    """Put a kind of a module, or take it out."""
    if module not in draft.modules:
        return False
    deeds, kinds, rows = draft.modules[module]
    if kind is None and not has_name(kinds, name):
        return False
    draft.modules[module] = (deeds, put_in(kinds, name, kind), rows)
    return True


def make_rows(draft, module, rows):
    """Put the rows of a module."""
    if module not in draft.modules:
        return False
    deeds, kinds, _ = draft.modules[module]
    draft.modules[module] = (deeds, kinds, rows)
    return True


def make_module(draft, name, module):
    """Put a module, or take it out."""
    if module is not None:
        draft.modules[name] = module[1:]
        return True
    if name not in draft.modules:
        return False
    del draft.modules[name]
    return True


def make_told(draft, well, k, worth):
    """Put right a told worth of a well."""
    worths = draft.worths.get(well, ())
    if k >= len(worths):
        return False
    draft.worths[well] = worths[:k] + (worth,) + worths[k + 1:]
    return True


def has_name(named, name):
    """Tell whether a name is among pairs of a name and what it names."""
    return any(other == name for other, _ in named)


def put_in(named, name, thing):
    """Tell pairs of a name and what it names, with this one put, or without it where it is None."""
    others = [pair for pair in named if pair[0] != name]
    if thing is not None:
        others.append((name, thing))
    return tuple(sorted(others, key=lambda pair: pair[0]))


MAKERS = {
    "deed": make_deed,
    "kind": make_kind,
    "rows": make_rows,
    "module": make_module,
    "told": make_told,
}


def edited(program, wells, edits):
    """Tell (program, wells) behind edits; wells are a dict of worths by name."""
    check_edits(edits)
    draft = Draft(program, wells)
    for k, edit in enumerate(edits):
        word, *parts = edit
        make = MAKERS[word]
        if not make(draft, *parts):
            raise NoEdit(k)
    changed = draft.program()
    if not is_program(changed):
        raise NoProgram()
    return (changed, draft.worths)
