"""The forms of led texts: of deeds and of what a record may be of."""

from everso.bodies import bears_give
from everso.forms import LED_NAMES
from everso.programs import are_takes, parts_by, parts_in, parts_of_expression, word_of
from everso.worths import is_whole

MOST_PARTS = 400
MOST_OUTWARDS = 12
# The words that can't stand in rows of a record by themselves, with a room and without one.
BARRED_IN_ROOM = ("give",)
BARRED_WITHOUT_ROOM = ("give", "tell", "own", "around")


def is_led_deed(thing):
    """Tell whether a thing is a led deed."""
    return led_parts("deed", thing, ()) is not None


def is_led_giver(thing):
    """Tell whether a thing is a led deed in which a give stands."""
    return is_led_deed(thing) and bears_give(thing[1])


def led_parts(slot, thing, barred):
    """Tell a led thing and all that stands in it, by its slots; None where one isn't what it should be."""
    found = []
    pending = [(slot, thing, barred)]
    while pending:
        place = pending.pop()
        found.append(place)
        parts = parts_in_led(place)
        if parts is None:
            return None
        pending.extend(parts)
    return found


def parts_in_led(place):
    """Tell the parts that stand straight in a led thing, None where it isn't what its slot asks for."""
    slot, thing, barred = place
    if slot == "one":
        return parts_of_led_expression(thing, barred)
    if slot == "own":
        return parts_of_led_own(thing, barred)
    if slot == "outwards":
        return [] if is_whole(thing) and 1 <= thing <= MOST_OUTWARDS else None
    if slot == "row" and word_of(thing) == "keep":
        return None
    return parts_in(place)


def parts_of_led_expression(thing, barred):
    """Tell the parts of a led expression, None of what has not the form of one that may stand here."""
    word = word_of(thing)
    if word == "name" or word in barred:
        return None
    if word in LED_NAMES:
        return parts_by(LED_NAMES[word], thing[1:], barred)
    return parts_of_expression(thing, barred)


def parts_of_led_own(thing, barred):
    """Tell the parts of a led name that a row gives a worth, None of what has not the form of one."""
    word = word_of(thing)
    if word not in ("own", "cell") or word in barred:
        return None
    return parts_by(LED_NAMES[word], thing[1:], barred)


def is_text(thing, has_room):
    """Tell whether a thing is the text of a stretch that has a room, or has none."""
    is_fit = TEXTS.get(word_of(thing))
    return is_fit is not None and is_fit(thing, BARRED_IN_ROOM if has_room else BARRED_WITHOUT_ROOM)


def are_few_parts(slot, thing, barred):
    """Tell whether a thing is led, and has no more expressions and rows than a program has."""
    parts = led_parts(slot, thing, barred)
    if parts is None:
        return False
    return len([1 for slot_within, _, _ in parts if slot_within in ("one", "row")]) <= MOST_PARTS


def is_deed_text(thing, barred):
    """Tell whether a thing is the text of a call."""
    return len(thing) == 2 and is_deed_with(thing[1], ("leave", "give"))


def is_wake_text(thing, barred):
    """Tell whether a thing is the text of a waking."""
    return len(thing) == 2 and is_deed_with(thing[1], ("leave",)) and bears_give(thing[1][1])


def is_deed_with(thing, barred):
    """Tell whether a thing is a led deed of few parts, without some words in its own rows."""
    if not isinstance(thing, tuple) or len(thing) != 2:
        return False
    takes, rows = thing
    return are_takes(takes) and are_few_parts("rows", rows, barred)


def is_turn_text(thing, barred):
    """Tell whether a thing is the text of a turn."""
    return len(thing) == 2 and word_of(thing[1]) in ("while", "each") and are_few_parts("row", thing[1], barred)


def is_rows_text(thing, barred):
    """Tell whether a thing is the text of rows."""
    return len(thing) == 2 and thing[1] != () and are_few_parts("rows", thing[1], barred)


def is_caught_text(thing, barred):
    """Tell whether a thing is the text of what a try has for a raised worth."""
    if len(thing) != 3 or led_parts("own", thing[1], barred) is None:
        return False
    return thing[2] != () and are_few_parts("rows", thing[2], barred)


def is_module_text(thing, barred):
    """Tell whether a thing is the text of a module."""
    return len(thing) == 2 and are_few_parts("rows", thing[1], BARRED_WITHOUT_ROOM + ("leave",))


TEXTS = {
    "deed": is_deed_text,
    "turn": is_turn_text,
    "rows": is_rows_text,
    "caught": is_caught_text,
    "wake": is_wake_text,
    "module": is_module_text,
}
