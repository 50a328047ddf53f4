"""How a run goes: what stands uppermost goes on, or what has ended is told to what stands beneath."""

from everso.bodies import expressions_ahead
from everso.calling import set_going
from everso.expressions import is_told_now, worth_now
from everso.raising import Raising
from everso.rowdoing import row_done
from everso.starting import CAUGHT, LAST, ON, begin_caught, begin_expression, begin_module, begin_rows, begin_turn
from everso.starting import rows_frame
from everso.words import row_of


def begin_modules(machine, program_rows):
    """Begin a run by (module, led rows) of each module, in the order in which they are gone."""
    machine.stack.append({"word": "modules", "rows": tuple(program_rows), "at": -1})


def go(machine):
    """Go on till the run waits or has ended."""
    while machine.stand_now is None:
        try:
            go_on(machine)
        except Raising as raising:
            machine.end = ("raised", raising.worth)


def go_on(machine):
    """Go on with what stands uppermost, or hand it the end of what stood upon it."""
    end = machine.end
    if end is None:
        frame = machine.stack[-1]
        advance = ADVANCING[frame["word"]]
        advance(machine, frame)
    else:
        machine.end = None
        frame = machine.stack.pop()
        take = ENDING[frame["word"]]
        take(machine, frame, end)


def next_part(machine, frame):
    """Begin the next part of an expression or a row; tell whether there was one."""
    many = len(frame["worths"])
    if many == len(frame["parts"]):
        return False
    begin_expression(machine, frame["parts"][many])
    return True


def advance_expression(machine, frame):
    """Go on with an expression: its parts, then what it does with them."""
    text = frame["text"]
    if next_part(machine, frame):
        return
    if text[0] == "ask" and machine.store.waits(text[1]):
        machine.stand_now = ("waits", text[1])
        return
    machine.stack.pop()
    if is_told_now(text):
        machine.deliver(worth_now(machine, text, frame["worths"]))
    else:
        set_going(machine, text, frame["worths"])


def advance_row(machine, frame):
    """Go on with a row: its expressions, then what it does."""
    if not next_part(machine, frame):
        machine.stack.pop()
        row_done(machine, frame["text"], frame["worths"])


def advance_rows(machine, frame):
    """Begin the next one of rows, or end them."""
    frame["at"] += 1
    if frame["at"] == len(frame["rows"]):
        machine.stack.pop()
        machine.end_stretch(frame, ON)
        machine.end = ON
        return
    row = frame["rows"][frame["at"]]
    machine.begin_step()
    machine.stack.append({"word": "row", "text": row, "parts": expressions_ahead(row), "worths": ()})


def advance_turn(machine, frame):
    """Go on with a turn of a while, the test of which has been gone."""
    test, = frame["worths"]
    if not isinstance(test, bool):
        raise Raising("kind")
    if test:
        machine.stack.append(rows_frame(frame["row"][2], 0, -1))
    else:
        machine.end = ("over",)


def advance_while(machine, frame):
    """Begin the next turn of a while."""
    begin_turn(machine, frame["row"], None)


def advance_each(machine, frame):
    """Begin the next turn of an each, or end it."""
    frame["turn"] += 1
    if frame["turn"] == len(frame["parts"]):
        machine.end = ("over",)
    else:
        begin_turn(machine, frame["row"], frame["parts"][frame["turn"]])


def advance_modules(machine, frame):
    """Begin the next module's rows, or end the run."""
    frame["at"] += 1
    if frame["at"] == len(frame["rows"]):
        machine.stand_now = ("ended",)
    else:
        begin_module(machine, frame["rows"][frame["at"]])


def pass_end(machine, frame, end):
    """Leave an expression or a row in which something ended otherwise than by its end."""
    machine.end = end


def end_in_rows(machine, frame, end):
    """Go on behind a row that came to its end, or end the rows as it did."""
    if end == ON:
        machine.stack.append(frame)
    else:
        machine.end_stretch(frame, end)
        machine.end = end


def end_in_turn(machine, frame, end):
    """End a turn as its rows, or its test, did."""
    machine.end_stretch(frame, end)
    machine.end = end


def end_in_loop(machine, frame, end):
    """Go on with a loop behind a turn, or end it."""
    if end == ON:
        machine.stack.append(frame)
    else:
        machine.end = ON if end in (("over",), ("left",)) else end


def end_in_try(machine, frame, end):
    """Go on with the next body of a try, or end it."""
    _, _, caught, last = frame["row"]
    if frame["body"] == LAST:
        machine.end = frame["held"] if end == ON else end
    elif frame["body"] == 0 and end[0] == "raised" and caught is not None:
        frame["body"] = CAUGHT
        machine.stack.append(frame)
        begin_caught(machine, caught, end[1])
    else:
        frame["body"] = LAST
        frame["held"] = end
        machine.stack.append(frame)
        begin_rows(machine, last, LAST)


def end_in_call(machine, frame, end):
    """End a call; its worth goes to what called."""
    told = ("told", None) if end == ON else end
    if frame["begun"]:
        machine.standing -= 1
        machine.room = frame["outer"]
        machine.end_stretch(frame, told)
    if told[0] == "raised":
        machine.end = told
    else:
        machine.deliver(told[1] if frame["unused"] is None else frame["unused"])


def end_in_wake(machine, frame, end):
    """End a waking, by a give or with the giver; what it comes to goes to what woke it."""
    told = ("told", None) if end == ON else end
    is_given = told[0] == "gave"
    if frame["begun"]:
        then = frame["gives"] if is_given else ("ended",)
        machine.store.do(("frame", frame["giver"], then))
        machine.standing -= 1
        machine.room = frame["outer"]
        machine.end_stretch(frame, told)
    if told[0] == "raised":
        machine.end = told
    else:
        machine.deliver(row_of((is_given, told[1])))


def end_in_modules(machine, frame, end):
    """Go on with the next module, or end the run with what was raised."""
    machine.stack.append(frame)
    if end != ON:
        machine.stand_now = end


ADVANCING = {
    "expression": advance_expression,
    "row": advance_row,
    "rows": advance_rows,
    "turn": advance_turn,
    "while": advance_while,
    "each": advance_each,
    "modules": advance_modules,
}

ENDING = {
    "expression": pass_end,
    "row": pass_end,
    "rows": end_in_rows,
    "turn": end_in_turn,
    "while": end_in_loop,
    "each": end_in_loop,
    "try": end_in_try,
    "call": end_in_call,
    "wake": end_in_wake,
    "modules": end_in_modules,
}
