"""How expressions, bodies, turns, calls begin, and how a giver goes on."""

from everso.bodies import bears_give, bodies_of, expressions_of
from everso.raising import Raising

# The end of rows that come to their end, and of a try the numbers of the bodies behind its rows.
ON = ("on",)
CAUGHT = 1
LAST = 2


def begin_expression(machine, expression):
    """Begin an expression: a step, then its parts."""
    machine.begin_step()
    frame = {"word": "expression", "text": expression, "parts": expressions_of(expression), "worths": ()}
    machine.stack.append(frame)


def rows_frame(rows, body, at):
    """Tell the frame of rows, a body of this number, of which the row at a number goes."""
    return {"word": "rows", "rows": rows, "body": body, "at": at, "begun": False}


def begin_body(machine, rows, body, text, handed):
    """Begin rows, a stretch with this text where they may be one; tell whether they are gone."""
    if not rows or bears_give(rows):
        machine.stack.append(rows_frame(rows, body, -1))
        return True
    return begin_stretch_of_rows(machine, rows, body, text, handed)


def begin_stretch_of_rows(machine, rows, body, text, handed):
    """Begin rows that are a stretch; tell whether they are gone."""
    is_gone = machine.begin(rows_frame(rows, body, -1), text, handed)
    if not is_gone:
        # The rows are over; what stands beneath takes their end.
        machine.stack.pop()
    return is_gone


def begin_rows(machine, rows, body):
    """Begin the rows of an if, of a try, of a last."""
    begin_body(machine, rows, body, ("rows", rows), (machine.room, None))


def begin_caught(machine, caught, worth):
    """Begin what a try has for a raised worth."""
    name, rows = caught
    if begin_body(machine, rows, CAUGHT, ("caught", name, rows), (machine.room, worth)):
        put_named(machine, name, worth)


def begin_module(machine, rows):
    """Begin a module's own rows, a stretch even where there are none."""
    begin_stretch_of_rows(machine, rows, 0, ("module", rows), ())


def loop_frame(row, parts, turn):
    """Tell the frame of a while or an each, of which the turn of a number goes."""
    return {"word": row[0], "row": row, "parts": parts, "turn": turn}


def try_frame(row, body, held):
    """Tell the frame of a try, of which a body goes; the last holds the end that came till then."""
    return {"word": "try", "row": row, "body": body, "held": held}


def turn_frame(row):
    """Tell the frame of a turn of a while or an each."""
    return {"word": "turn", "row": row, "worths": (), "begun": False}


def begin_turn(machine, row, part):
    """Begin a turn of a while, of an each with a part of its row."""
    frame = turn_frame(row)
    if bears_give(row[-1]):
        machine.stack.append(frame)
    elif not machine.begin(frame, ("turn", row), (machine.room, part)):
        return
    machine.begin_step()
    if row[0] == "while":
        begin_expression(machine, row[1])
    else:
        put_named(machine, row[1], part)
        machine.stack.append(rows_frame(row[3], 0, -1))


def put_named(machine, name, worth):
    """Put what a led name leads to, a field of the going room or of a module."""
    if name[0] == "own":
        machine.store.do(("field", machine.room, name[1], worth))
    else:
        machine.store.do(name + (worth,))


def call_deed(machine, deed, around, worths, unused):
    """Call a deed in a room around; where something is told in the place of its worth, that is unused."""
    takes, rows = deed
    if len(takes) != len(worths):
        raise Raising("many")
    if bears_give(rows):
        room = make_room(machine, deed, around, worths)
        giver = machine.store.make(("giver",), (deed, room))
        machine.deliver(("thing", giver) if unused is None else unused)
    else:
        begin_call(machine, deed, around, worths, unused)


def begin_call(machine, deed, around, worths, unused):
    """Begin a call of a deed that is no giver's."""
    frame = {"word": "call", "unused": unused, "outer": machine.room}
    if machine.begin(frame, ("deed", deed), (around, worths)):
        machine.stand_upon()
        machine.room = make_room(machine, deed, around, worths)
        machine.stack.append(rows_frame(deed[1], 0, -1))


def make_room(machine, deed, around, worths):
    """Make the room of a call; its number is told."""
    room = machine.store.make(("room",), around)
    for take, worth in zip(deed[0], worths):
        machine.store.do(("field", room, take, worth))
    return room


def begin_wake(machine, giver, worth):
    """Begin the waking of a giver that neither goes nor has ended."""
    store = machine.store
    # Where a record is asked what is there, it tells just what is next: so the frame goes ahead.
    was, = store.there(("frame", giver))
    (deed, room), = store.there(("up", giver))
    frame = {"word": "wake", "giver": giver, "outer": machine.room}
    if machine.begin(frame, ("wake", deed), (giver, worth)):
        store.read(("frame", giver))
        store.read(("up", giver))
        machine.stand_upon()
        store.do(("frame", giver, ("going",)))
        machine.room = room
        if was == ("new",):
            machine.stack.append(rows_frame(deed[1], 0, -1))
        else:
            give = set_up_frames(machine, deed[1], was)
            put_named(machine, give[1], worth)


def set_up_frames(machine, rows, was):
    """Set up what stood upon one another in a giver's rows as it gave; tell the give."""
    _, path, loops = was
    body = 0
    for number, inner in path[:-1]:
        row = rows[number]
        machine.stack.append(rows_frame(rows, body, number))
        if row[0] == "each":
            (parts, turn), *loops = loops
            set_up_loop(machine, row, parts, turn)
        elif row[0] == "while":
            set_up_loop(machine, row, (), -1)
        elif row[0] == "try" and inner == LAST:
            (held,), *loops = loops
            machine.stack.append(try_frame(row, inner, held))
        elif row[0] == "try":
            machine.stack.append(try_frame(row, inner, ON))
        rows, body = bodies_of(row)[inner], inner
    number, = path[-1]
    machine.stack.append(rows_frame(rows, body, number))
    return rows[number]


def set_up_loop(machine, row, parts, turn):
    """Set up a loop in a turn of which a giver gave."""
    machine.stack.append(loop_frame(row, parts, turn))
    machine.stack.append(turn_frame(row))
