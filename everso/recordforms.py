"""The forms of what a record has beside its text, so far as going it doesn't tell them."""

from everso.bodies import bodies_of
from everso.ledforms import is_led_deed, is_led_giver, is_text
from everso.matching import are_same
from everso.places import is_number, is_place
from everso.programs import word_of
from everso.starting import LAST, ON
from everso.worths import is_deed_or_kind, is_name, is_plain, is_worth

MOST_STEPS = 5000
MOST_DEEP = 12
LEFT = ("left",)
# The places that may have nothing.
MAY_LACK = ("field", "cell", "deed", "chain")


def has_form(thing):
    """Tell whether a thing has the form of a record, whatever its effects and its end are."""
    if not isinstance(thing, tuple) or len(thing) != 7:
        return False
    text, handed, reads, effects, _, steps, deep = thing
    if not is_text(text, has_room(handed)) or not is_handed(text, handed):
        return False
    if not is_number(steps) or not is_number(deep) or not isinstance(effects, tuple):
        return False
    return steps <= MOST_STEPS and deep <= MOST_DEEP and are_reads(reads, text, handed)


def has_room(handed):
    """Tell whether something is handed to a stretch as its room, or before its worths."""
    return isinstance(handed, tuple) and len(handed) == 2 and handed[0] is not None


def is_handed(text, handed):
    """Tell whether a thing is what is handed to a stretch of this text."""
    if text[0] == "module":
        return handed == ()
    if not isinstance(handed, tuple) or len(handed) != 2:
        return False
    room, told = handed
    if text[0] == "wake":
        return is_number(room) and is_worth(told)
    if not is_room(room):
        return False
    if text[0] == "deed":
        return isinstance(told, tuple) and len(told) == len(text[1][0]) and all(is_worth(worth) for worth in told)
    if text[0] == "rows" or (text[0] == "turn" and text[1][0] == "while"):
        return told is None
    return is_worth(told)


def are_reads(thing, text, handed):
    """Tell whether a thing is the reads of a stretch of this text, by their forms."""
    if not isinstance(thing, tuple) or not all(is_read(read) for read in thing):
        return False
    about = ReadsForm(text, handed, thing)
    return all(about.is_was(place, was) for place, was in thing)


def is_read(thing):
    """Tell whether a thing is a pair of a place and a tuple of one, or of none where that may be."""
    if not isinstance(thing, tuple) or len(thing) != 2:
        return False
    place, was = thing
    if not is_place(place) or not isinstance(was, tuple):
        return False
    return len(was) == 1 or (was == () and place[0] in MAY_LACK)


class ReadsForm:
    """What the form of a read hangs on: the other reads, and the giver that is woken."""

    def __init__(self, text, handed, reads):
        self.sorts = {place[1]: was[0] for place, was in reads if place[0] == "sort"}
        self.ups = {place[1]: was[0] for place, was in reads if place[0] == "up"}
        self.giver, self.deed = (handed[0], text[1]) if text[0] == "wake" else (None, None)

    def is_was(self, place, was):
        """Tell whether what was there at a place has the form of it."""
        if was == ():
            return True
        word, one = place[0], was[0]
        if word == "up":
            return self.is_up(place[1], one)
        if word == "frame":
            return self.is_frame(place[1], one)
        is_fit = FITTING[word]
        return is_fit(one)

    def is_up(self, t, thing):
        """Tell whether a thing may be what a room, a closure or a giver has around it."""
        if t == self.giver:
            return is_pair(thing) and are_same(thing[0], self.deed) and is_number(thing[1])
        if self.sorts.get(t) == ("closure",):
            return is_pair(thing) and is_led_deed(thing[0]) and is_room(thing[1])
        if self.sorts.get(t) == ("giver",):
            return is_pair(thing) and is_led_giver(thing[0]) and is_number(thing[1])
        return is_room(thing)

    def is_frame(self, t, thing):
        """Tell whether a thing may be the frame of a giver."""
        if thing in (("going",), ("ended",)):
            # A giver that is woken is neither, by what its stretch is.
            return t != self.giver
        if thing == ("new",):
            return True
        if word_of(thing) != "gave" or len(thing) != 3:
            return False
        up = self.ups.get(t)
        return is_pair(up) and self.is_up(t, up) and leads_to_give(up[0][1], thing[1], thing[2])


def is_pair(thing):
    """Tell whether a thing is a tuple of two."""
    return isinstance(thing, tuple) and len(thing) == 2


def is_room(thing):
    """Tell whether a thing may be the number of a room, or None."""
    return thing is None or is_number(thing)


def is_sort(thing):
    """Tell whether a thing is the sort of a thing."""
    if thing in (("room",), ("closure",), ("giver",)):
        return True
    return is_deed_or_kind(thing) and thing[0] == "kind"


def are_names(thing):
    """Tell whether a thing is a tuple of names, unlike."""
    return isinstance(thing, tuple) and all(is_name(name) for name in thing) and len(set(thing)) == len(thing)


def is_any_worth(thing):
    """Tell whether a thing is a worth."""
    return is_worth(thing)


def is_any_deed(thing):
    """Tell whether a thing is a led deed."""
    return is_led_deed(thing)


def is_many(thing):
    """Tell whether a thing may be how many worths were asked."""
    return is_number(thing)


def is_told(thing):
    """Tell whether a thing may be a worth that was told."""
    return is_plain(thing)


FITTING = {
    "field": is_any_worth,
    "cell": is_any_worth,
    "names": are_names,
    "sort": is_sort,
    "deed": is_any_deed,
    "chain": is_any_deed,
    "asked": is_many,
    "told": is_told,
}


def leads_to_give(rows, path, loops):
    """Tell whether a frame's path leads through rows to a give, with what its loops hold."""
    if not isinstance(path, tuple) or not path or not isinstance(loops, tuple):
        return False
    is_in_loop = False
    pending = list(reversed(loops))
    for step in path[:-1]:
        if not is_pair(step) or not is_row_number(step[0], rows):
            return False
        row = rows[step[0]]
        body = body_of(row, step[1])
        if body is None or not is_held(row, step[1], pending, is_in_loop):
            return False
        is_in_loop = is_in_loop or row[0] in ("while", "each")
        rows = body
    last = path[-1]
    is_row = isinstance(last, tuple) and len(last) == 1 and is_row_number(last[0], rows)
    return is_row and rows[last[0]][0] == "give" and not pending


def is_row_number(thing, rows):
    """Tell whether a thing is the number of one of rows."""
    return is_number(thing) and thing < len(rows)


def body_of(row, number):
    """Tell the body of a row by its number, None where it has none."""
    bodies = bodies_of(row)
    return bodies[number] if is_row_number(number, bodies) else None


def is_held(row, body, pending, is_in_loop):
    """Tell whether what a frame holds of a body comes next of what is pending, where it holds something."""
    if row[0] != "each" and body != LAST:
        return True
    if not pending:
        return False
    held = pending.pop()
    if row[0] == "each":
        return is_pair(held) and is_worth(("row", held[0])) and is_row_number(held[1], held[0])
    return isinstance(held, tuple) and len(held) == 1 and is_held_end(held[0], is_in_loop)


def is_held_end(thing, is_in_loop):
    """Tell whether a thing may be an end that a last holds."""
    if thing in (ON, LEFT):
        return thing == ON or is_in_loop
    return is_pair(thing) and thing[0] in ("told", "raised") and is_worth(thing[1])
