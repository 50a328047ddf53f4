"""Worths: which things are one, which are plain, which two are alike."""

NAME_SIGNS = 8
GREATEST = 10 ** 15
TEXT_SIGNS = 20
ROW_PARTS = 40
ROWS_DEEP = 8
WORTHS_IN_ALL = 200
# By their numbers, since no text of the package may have a percent sign in it.
PERCENT = 37
QUOTE = 39


def is_whole(thing):
    """Tell whether a thing is a whole number."""
    # Python's truths are ints too, but a truth is nowhere taken for a number.
    return isinstance(thing, int) and not isinstance(thing, bool)


def is_name(thing):
    """Tell whether a thing is a name."""
    if not isinstance(thing, str) or not 1 <= len(thing) <= NAME_SIGNS:
        return False
    return all("a" <= sign <= "z" for sign in thing)


def is_worth(thing):
    """Tell whether a thing is a worth."""
    return is_built_of(thing, is_single)


def is_plain(thing):
    """Tell whether a thing is a plain worth."""
    return is_built_of(thing, is_plain_single)


def is_built_of(thing, is_fit):
    """Tell whether a thing is a worth whose parts that are no rows all are fit."""
    pending = [(thing, 1)]
    many = 0
    # The count ends the loop early, however many parts the thing has.
    while pending and many <= WORTHS_IN_ALL:
        part, deep = pending.pop()
        many += 1
        if is_short_row(part) and deep <= ROWS_DEEP:
            pending.extend([(inner, deep + 1) for inner in part[1]])
        elif not is_fit(part):
            return False
    return many <= WORTHS_IN_ALL


def is_short_row(thing):
    """Tell whether a thing has the form of a row, whatever its parts are."""
    if not isinstance(thing, tuple) or len(thing) != 2:
        return False
    word, parts = thing
    return word == "row" and isinstance(parts, tuple) and len(parts) <= ROW_PARTS


def is_single(thing):
    """Tell whether a thing is a worth that is no row."""
    return is_plain_single(thing) or is_thing(thing) or is_deed_or_kind(thing)


def is_plain_single(thing):
    """Tell whether a thing is a plain worth that is no row."""
    if thing is None or isinstance(thing, bool):
        return True
    if is_whole(thing):
        return -GREATEST <= thing <= GREATEST
    return is_short_text(thing)


def is_short_text(thing):
    """Tell whether a thing is a text that is a worth."""
    if not isinstance(thing, str) or len(thing) > TEXT_SIGNS:
        return False
    return all(" " <= sign <= "~" and ord(sign) not in (PERCENT, QUOTE) for sign in thing)


def is_thing(thing):
    """Tell whether a thing is the worth of a made thing."""
    if not isinstance(thing, tuple) or len(thing) != 2:
        return False
    word, k = thing
    return word == "thing" and is_whole(k) and 0 <= k <= GREATEST


def is_deed_or_kind(thing):
    """Tell whether a thing is the worth of a deed or of a kind."""
    if not isinstance(thing, tuple) or len(thing) != 3:
        return False
    word, module, name = thing
    return word in ("deed", "kind") and is_name(module) and is_name(name)


def are_alike(one, other):
    """Tell whether two worths are of one sort and the same."""
    if is_short_row(one) and is_short_row(other):
        return are_all_alike(one[1], other[1])
    # Python takes True for 1, a worth doesn't.
    return isinstance(one, bool) == isinstance(other, bool) and one == other


def are_all_alike(ones, others):
    """Tell whether two tuples of worths are alike part by part."""
    if len(ones) != len(others):
        return False
    return all(are_alike(one, other) for one, other in zip(ones, others))
