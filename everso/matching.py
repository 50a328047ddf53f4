"""What holds: whether what a record was handed and read is what is there now, things led."""

from everso.numbering import place_by
from everso.worths import is_thing


class Leads:
    """A map that leads things to things, one to one."""

    def __init__(self):
        self.ahead = {}
        self.back = {}

    def of(self, k):
        """Tell the thing to which one is led that is in the map."""
        return self.ahead[k]

    def put(self, one, other):
        """Lead a thing to another one, both new in the map."""
        self.ahead[one] = other
        self.back[other] = one

    def joins(self, one, other):
        """Tell whether a thing is led to another one, be it from now on, where both are new."""
        if one not in self.ahead and other not in self.back:
            self.put(one, other)
        return self.ahead.get(one) == other

    def pairs(self):
        """Tell the pairs of the map, rising."""
        return tuple(sorted(self.ahead.items()))


def are_same(one, other):
    """Tell whether two things are the same, True and 1 apart."""
    # Python takes True for 1, but writes them otherwise.
    return one == other and repr(one) == repr(other)


# Each match tells whether two things told are the same but for numbers of things, and each of
# these is led to the other's by a map, that grows where both are new in it.


def match_worth(one, other, leads):
    """Match two worths."""
    if not isinstance(one, tuple) or not isinstance(other, tuple):
        return are_same(one, other)
    if is_thing(one) and is_thing(other):
        return leads.joins(one[1], other[1])
    if one[0] == "row" and other[0] == "row":
        return match_worths(one[1], other[1], leads)
    return are_same(one, other)


def match_worths(ones, others, leads):
    """Match two tuples of worths."""
    if len(ones) != len(others):
        return False
    return all(match_worth(one, other, leads) for one, other in zip(ones, others))


def match_room(one, other, leads):
    """Match two rooms, or None."""
    if one is None or other is None:
        return one is None and other is None
    return leads.joins(one, other)


def match_up(one, other, leads):
    """Match what is around rooms, or what closures or givers have of a deed and a room."""
    if not isinstance(one, tuple) or not isinstance(other, tuple):
        return isinstance(one, tuple) == isinstance(other, tuple) and match_room(one, other, leads)
    return are_same(one[0], other[0]) and match_room(one[1], other[1], leads)


def match_end(one, other, leads):
    """Match two ends of stretches."""
    return one[0] == other[0] and match_worths(one[1:], other[1:], leads)


def match_frame(one, other, leads):
    """Match two frames of givers."""
    if one[0] != "gave" or other[0] != "gave":
        return one == other
    loops, now = one[2], other[2]
    if not are_same(one[1], other[1]) or len(loops) != len(now):
        return False
    return all(match_loop(loop, loop_now, leads) for loop, loop_now in zip(loops, now))


def match_loop(one, other, leads):
    """Match what two frames have of an each, or of a last."""
    if len(one) != len(other):
        return False
    if len(one) == 1:
        return match_end(one[0], other[0], leads)
    return match_worths(one[0], other[0], leads) and are_same(one[1], other[1])


def match_was(place, one, other, leads):
    """Match what was, or is, there at two places of a sort."""
    if one == () or other == ():
        return one == other
    if place[0] in ("field", "cell"):
        return match_worth(one[0], other[0], leads)
    if place[0] == "up":
        return match_up(one[0], other[0], leads)
    if place[0] == "frame":
        return match_frame(one[0], other[0], leads)
    return are_same(one, other)


def match_handed(word, one, other, leads):
    """Match what was handed to two stretches of a text that begins with a word."""
    if word == "module":
        return True
    (room, told), (room_now, told_now) = one, other
    if not match_room(room, room_now, leads):
        return False
    if word == "deed":
        return match_worths(told, told_now, leads)
    return match_worth(told, told_now, leads)


def held_leads(record, machine, handed):
    """Tell the map by which a record holds with this handed on what stands now, else None."""
    text, was_handed, reads, _, _, steps, deep = record
    if machine.many_steps + steps > machine.most or machine.standing + deep > machine.deep:
        return None
    leads = Leads()
    if not match_handed(text[0], was_handed, handed, leads):
        return None
    for place, was in reads:
        if not match_was(place, was, machine.store.there(place_by(place, leads)), leads):
            return None
    return leads
