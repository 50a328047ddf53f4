"""Expressions for which something else goes: new, call, send, wake."""

from everso.expressions import kind_read, sort_read
from everso.raising import Raising
from everso.starting import begin_wake, call_deed
from everso.worths import is_deed_or_kind


def set_going(machine, text, worths):
    """Do what an expression of one of these words does, by the worths of its parts."""
    do = DOERS[text[0]]
    do(machine, text, worths)


def is_of(worth, word):
    """Tell whether a worth is a deed or a kind."""
    return is_deed_or_kind(worth) and worth[0] == word


def do_new(machine, text, worths):
    """Make a thing of a kind, and call the make of its chain with it."""
    kind, *others = worths
    if not is_of(kind, "kind"):
        raise Raising("kind")
    thing = ("thing", machine.store.make(kind, None))
    make = machine.store.read(("chain",) + kind[1:] + ("make",))
    if make:
        call_deed(machine, make[0], None, (thing, *others), thing)
    elif others:
        raise Raising("many")
    else:
        machine.deliver(thing)


def do_call(machine, text, worths):
    """Call a deed or a closure."""
    called, *others = worths
    sort = sort_read(machine, called)
    if is_of(called, "deed"):
        deed = machine.store.read(called)
        if not deed:
            raise Raising("lacks")
        call_deed(machine, deed[0], None, tuple(others), None)
    elif sort == ("closure",):
        deed, around = machine.store.read(("up", called[1]))[0]
        call_deed(machine, deed, around, tuple(others), None)
    else:
        raise Raising("kind")


def do_send(machine, text, worths):
    """Call a deed of a thing's kind with the thing."""
    kind = kind_read(machine, worths[0])
    deed = machine.store.read(("chain",) + kind[1:] + (text[2],))
    if not deed:
        raise Raising("lacks")
    call_deed(machine, deed[0], None, worths, None)


def do_wake(machine, text, worths):
    """Wake a giver."""
    giver, worth = worths
    if sort_read(machine, giver) != ("giver",):
        raise Raising("kind")
    place = ("frame", giver[1])
    stands, = machine.store.there(place)
    if stands[0] in WHY_NOT:
        machine.store.read(place)
        raise Raising(WHY_NOT[stands[0]])
    begin_wake(machine, giver[1], worth)


# Of a giver's frame with which it can't be woken, what is raised.
WHY_NOT = {"going": "runs", "ended": "ended"}

DOERS = {
    "new": do_new,
    "call": do_call,
    "send": do_send,
    "wake": do_wake,
}
