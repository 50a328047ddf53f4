"""What each row does when its expressions have been gone."""

from everso.expressions import names_read
from everso.raising import Raising
from everso.starting import LAST, ON, begin_rows, loop_frame, put_named, try_frame
from everso.words import is_row
from everso.worths import is_plain


def row_done(machine, row, worths):
    """Do what a row does, by the worths of its expressions."""
    do = DOERS[row[0]]
    do(machine, row, worths)


def do_let(machine, row, worths):
    """Put a field of the room, or of a module."""
    put_named(machine, row[1], worths[0])


def do_put(machine, row, worths):
    """Put a field of a thing of a kind."""
    thing, worth = worths
    names_read(machine, thing)
    machine.store.do(("field", thing[1], row[2], worth))


def do_out(machine, row, worths):
    """Take a field out of a thing of a kind."""
    thing, = worths
    if row[2] not in names_read(machine, thing):
        raise Raising("lacks")
    machine.store.do(("out", thing[1], row[2]))


def do_say(machine, row, worths):
    """Say a plain worth."""
    if not is_plain(worths[0]):
        raise Raising("kind")
    machine.store.do(("say", worths[0]))


def do_nothing(machine, row, worths):
    """Do nothing more than was done for the expression."""


def do_tell(machine, row, worths):
    """End the deed with a worth."""
    machine.end = ("told", worths[0])


def do_raise(machine, row, worths):
    """Raise a worth."""
    machine.end = ("raised", worths[0])


def do_leave(machine, row, worths):
    """End the nearest loop."""
    machine.end = ("left",)


def do_give(machine, row, worths):
    """Break off the giver here; its waking has the frame by which it goes on."""
    at = len(machine.stack) - 1
    while machine.stack[at]["word"] != "wake":
        at -= 1
    machine.stack[at]["gives"] = frame_of_give(machine.stack[at + 1:])
    del machine.stack[at + 1:]
    machine.end = ("gave", worths[0])


def frame_of_give(frames):
    """Tell the frame of a giver that gives, by what stands upon its waking."""
    path, loops = [], []
    for frame in frames:
        if frame["word"] == "rows":
            if path:
                path[-1] += (frame["body"],)
            path.append((frame["at"],))
        elif frame["word"] == "each":
            loops.append((frame["parts"], frame["turn"]))
        elif frame["word"] == "try" and frame["body"] == LAST:
            loops.append((frame["held"],))
    return ("gave", tuple(path), tuple(loops))


def do_if(machine, row, worths):
    """Begin the body that the test asks for."""
    _, _, rows, others = row
    if not isinstance(worths[0], bool):
        raise Raising("kind")
    if worths[0]:
        begin_rows(machine, rows, 0)
    else:
        begin_rows(machine, others, 1)


def do_while(machine, row, worths):
    """Begin a while; its turns come one by one."""
    machine.stack.append(loop_frame(row, (), -1))


def do_each(machine, row, worths):
    """Begin an each over the parts of a row, as that is now."""
    if not is_row(worths[0]):
        raise Raising("kind")
    machine.stack.append(loop_frame(row, worths[0][1], -1))


def do_try(machine, row, worths):
    """Begin a try by its rows."""
    machine.stack.append(try_frame(row, 0, ON))
    begin_rows(machine, row[1], 0)


DOERS = {
    "let": do_let,
    "put": do_put,
    "out": do_out,
    "say": do_say,
    "do": do_nothing,
    "tell": do_tell,
    "raise": do_raise,
    "leave": do_leave,
    "give": do_give,
    "if": do_if,
    "while": do_while,
    "each": do_each,
    "try": do_try,
}
