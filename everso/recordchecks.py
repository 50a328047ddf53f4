"""Checkers: whether a record is so, by what it read alone."""

from everso.errors import TooDeep, TooLong
from everso.going import go
from everso.machines import Machine
from everso.matching import are_same
from everso.numbering import Gatherer, handed_by, was_by
from everso.places import is_number, is_of_thing
from everso.raising import NotSo
from everso.recordforms import has_form
from everso.starting import begin_call, begin_caught, begin_module, begin_rows, begin_turn, begin_wake
from everso.stores import Store
from everso.worths import is_worth


def record_holds(thing):
    """Tell whether a thing is a record that is so."""
    if not has_form(thing):
        return False
    text, handed, reads, effects, end, steps, deep = thing
    first = first_made(effects, greatest_number(text, handed, reads) + 1)
    if first is None:
        return False
    store = ToldStore(reads, first)
    machine = Machine(store, EndWatch(), steps, deep)
    try:
        begin(machine, text, handed)
        go(machine)
    except (TooLong, TooDeep, NotSo):
        return False
    made = (machine.stand_now, machine.many_steps, machine.highest)
    return store.is_all_read() and are_same(made, (end, steps, deep)) and are_so(store.effects(), effects)


def are_so(done, effects):
    """Tell whether effects are just those that were done, and make what is a worth."""
    made = [("thing", effect[1]) for effect in done if effect[0] == "make" and effect[2] != ("room",)]
    return are_same(done, effects) and all(is_worth(worth) for worth in made)


class ToldStore(Store):
    """What stands where a record's text is gone: what its reads say, and what was done since."""

    def __init__(self, reads, first):
        Store.__init__(self, {})
        self.reads = reads
        self.many_read = 0
        self.first = first
        self.made = first

    def there(self, place):
        """Tell what is there at a place; what isn't known must be what was read next."""
        if place in self.places:
            return self.places[place]
        if is_of_thing(place) and place[1] >= self.first:
            return ()
        if self.is_all_read() or self.reads[self.many_read][0] != place:
            raise NotSo()
        was = self.reads[self.many_read][1]
        self.many_read += 1
        self.places[place] = was
        return was

    def waits(self, well):
        """A stretch that ended didn't wait."""
        return False

    def is_all_read(self):
        """Tell whether all was read that the record says."""
        return self.many_read == len(self.reads)

    def effects(self):
        """Tell the effects that were done."""
        return tuple([event for event in self.log if event[0] != "read"])


class EndWatch:
    """Stops a machine with the end of the stretch that began first."""

    def __init__(self):
        self.under_way = 0

    def step_begins(self, machine):
        """Keep nothing of a step."""

    def begun(self, machine, text, handed):
        """Take no record for a stretch."""
        self.under_way += 1
        return None

    def ended(self, machine, end):
        """Stop where it is the first stretch that ends."""
        self.under_way -= 1
        if self.under_way == 0:
            machine.stand_now = end


def begin(machine, text, handed):
    """Begin a stretch by its text and what is handed to it."""
    # What ends a call or a waking hands its worth to what stands beneath.
    machine.stack.append({"word": "base", "worths": ()})
    word = text[0]
    if word == "module":
        begin_module(machine, text[1])
        return
    room, told = handed
    if word == "deed":
        begin_call(machine, text[1], room, told, None)
    elif word == "wake":
        begin_wake(machine, room, told)
    else:
        machine.room = room
        begin_in_room(machine, text, told)


def begin_in_room(machine, text, told):
    """Begin a stretch of a room, or of a module's own rows."""
    if text[0] == "turn":
        begin_turn(machine, text[1], told)
    elif text[0] == "caught":
        begin_caught(machine, text[1:], told)
    else:
        begin_rows(machine, text[1], 0)


def greatest_number(text, handed, reads):
    """Tell the greatest number of a thing that was handed or stood in reads, -1 where there is none."""
    gatherer = Gatherer()
    handed_by(text[0], handed, gatherer)
    for place, was in reads:
        # The thing of a place was handed, or stood in what was read ahead.
        was_by(place, was, gatherer)
    return max(gatherer.numbers, default=-1)


def first_made(effects, least):
    """Tell the number of the first thing that effects make, or one that it may have; None where it is too small."""
    for effect in effects:
        if isinstance(effect, tuple) and len(effect) == 4 and effect[0] == "make":
            return effect[1] if is_number(effect[1]) and effect[1] >= least else None
    return least
