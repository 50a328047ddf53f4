"""Programs: which things are deeds, which are programs."""

from everso.forms import EXPRESSIONS, LISTS, NAMED, PERHAPS, ROWS, TUPLES, VERBS
from everso.worths import is_name, is_plain

MOST_TAKES = 4
MOST_ES = 8
# The words of the rows that can't stand in a module's rows and in a deed's, out of loops.
BARRED_IN_MODULE = ("leave", "tell", "give")
BARRED_IN_DEED = ("leave",)


def is_deed(thing):
    """Tell whether a thing is a deed."""
    return all_parts("deed", thing) is not None


def is_program(thing):
    """Tell whether a thing is a program."""
    if not isinstance(thing, tuple) or not all(is_module(module) for module in thing):
        return False
    names = [module[0] for module in thing]
    return are_rising(names) and "main" in names


def is_module(thing):
    """Tell whether a thing is a module by itself."""
    parts = all_parts("module", thing)
    if parts is None:
        return False
    _, deeds, kinds, _ = thing
    named = [name for name, _ in deeds + kinds]
    kept = kept_names(parts)
    return len(set(named)) == len(named) and len(set(named) & set(kept)) == 0


def kept_names(parts):
    """Tell the names of a module's fields to which its text gives worths, by all its parts."""
    # Where no tell may stand, there is no deed around: these are the module's own rows.
    return [
        part for slot, part, barred in parts
        if slot == "kept" or (slot == "own" and "tell" in barred)
    ]


def all_parts(slot, thing):
    """Tell a thing and all that stands in it, each with its slot and the words barred there.

    None is told where the thing, or one in it, isn't what its slot asks for.
    """
    found = []
    pending = [(slot, thing, BARRED_IN_MODULE)]
    while pending:
        place = pending.pop()
        found.append(place)
        parts = parts_in(place)
        if parts is None:
            return None
        pending.extend(parts)
    return found


def parts_in(place):
    """Tell the parts that stand straight in a thing, None where it isn't what its slot asks for."""
    slot, thing, barred = place
    if slot == "one":
        return parts_of_expression(thing, barred)
    if slot == "row":
        return parts_of_row(thing, barred)
    if slot in LISTS:
        return parts_of_list(slot, thing, barred)
    if slot in NAMED:
        return parts_of_named(slot, thing, barred)
    if slot in PERHAPS and thing is None:
        return []
    if slot in TUPLES:
        return parts_by(TUPLES[slot], thing, barred)
    return [] if is_single(slot, thing) else None


def is_single(slot, thing):
    """Tell whether a thing in which no part stands is what its slot asks for."""
    if slot == "worth":
        return is_plain(thing)
    if slot == "takes":
        return are_takes(thing)
    return is_name(thing)


def are_takes(thing):
    """Tell whether a thing is the takes of a deed."""
    if not isinstance(thing, tuple) or len(thing) > MOST_TAKES:
        return False
    return all(is_name(take) for take in thing) and len(set(thing)) == len(thing)


def parts_by(slots, thing, barred):
    """Tell the parts of a tuple of one thing for each slot, None of what is no such tuple."""
    if not isinstance(thing, tuple) or len(thing) != len(slots):
        return None
    return [(slot, part, barred) for slot, part in zip(slots, thing)]


def parts_of_expression(thing, barred):
    """Tell the parts of an expression, None of what has not the form of one."""
    slots = EXPRESSIONS.get(word_of(thing))
    if slots is None or (thing[0] == "word" and not is_counted(thing)):
        return None
    return parts_by(slots, thing[1:], barred)


def parts_of_row(thing, barred):
    """Tell the parts of a row, None of what has not the form of one that may stand here."""
    word = word_of(thing)
    slots = ROWS.get(word)
    if slots is None or word in barred:
        return None
    return parts_by(slots, thing[1:], barred)


def word_of(thing):
    """Tell the text that a tuple begins with, that without signs where there is none."""
    if isinstance(thing, tuple) and thing and isinstance(thing[0], str):
        return thing[0]
    return ""


def is_counted(thing):
    """Tell whether a word's expression does what there is, and has as many parts as that takes."""
    if len(thing) != 3 or not isinstance(thing[1], str) or not isinstance(thing[2], tuple):
        return False
    return VERBS.get(thing[1]) == len(thing[2])


def parts_of_list(slot, thing, barred):
    """Tell the parts of es or of rows, None of what has not the form of them."""
    if not isinstance(thing, tuple) or (slot == "many" and len(thing) > MOST_ES):
        return None
    barred_within = barred_in(slot, barred)
    return [(LISTS[slot], part, barred_within) for part in thing]


def barred_in(slot, barred):
    """Tell the words of rows that can't stand in a list, by those that can't stand around it."""
    if slot == "inner":
        return BARRED_IN_DEED
    if slot == "turns":
        return tuple([word for word in barred if word != "leave"])
    return barred


def parts_of_named(slot, thing, barred):
    """Tell the deeds or kinds of a tuple of them with their names, None of what is no such one."""
    if not isinstance(thing, tuple) or not all(is_named(pair) for pair in thing):
        return None
    if not are_rising([name for name, _ in thing]):
        return None
    return [(NAMED[slot], part, barred) for _, part in thing]


def is_named(thing):
    """Tell whether a thing is a pair of a name and something."""
    return isinstance(thing, tuple) and len(thing) == 2 and is_name(thing[0])


def are_rising(names):
    """Tell whether names rise, so that none is there twice."""
    return all(one < other for one, other in zip(names, names[1:]))
