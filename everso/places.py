"""Places: which things are one."""

from everso.programs import word_of
from everso.worths import is_name, is_whole

# What a place has behind its word, in order.
PLACES = {
    "field": ("thing", "name"),
    "names": ("thing",),
    "sort": ("thing",),
    "up": ("thing",),
    "frame": ("thing",),
    "cell": ("name", "name"),
    "deed": ("name", "name"),
    "chain": ("name", "name", "name"),
    "asked": ("name",),
    "told": ("name", "number"),
}


def is_place(thing):
    """Tell whether a thing is a place."""
    slots = PLACES.get(word_of(thing))
    if slots is None or len(thing) != len(slots) + 1:
        return False
    return all(is_in_slot(slot, part) for slot, part in zip(slots, thing[1:]))


def is_in_slot(slot, part):
    """Tell whether a part of a place is what its slot asks for."""
    return is_name(part) if slot == "name" else is_number(part)


def is_number(thing):
    """Tell whether a thing is a whole number from 0."""
    return is_whole(thing) and thing >= 0


def is_of_thing(place):
    """Tell whether a place is one of a thing or a room."""
    return PLACES[place[0]][0] == "thing"
