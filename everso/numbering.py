"""Numbers of things in what is told: where they stand, and what they become by a leader.

A leader has `of(k)`, which tells the number that comes in the place of a thing's number. It is
asked for each, from left to right. A worth is a thing by its sort alone: the row of the text
`thing` and 5 has no number of a thing.
"""

from everso.places import is_of_thing
from everso.worths import is_thing


class Gatherer:
    """A leader that leads each number to itself, and keeps it."""

    def __init__(self):
        self.numbers = []

    def of(self, k):
        """Keep a number."""
        self.numbers.append(k)
        return k


def worth_by(worth, leader):
    """Tell a worth, its things led."""
    if is_thing(worth):
        return ("thing", leader.of(worth[1]))
    if isinstance(worth, tuple) and worth[0] == "row":
        return ("row", worths_by(worth[1], leader))
    return worth


def worths_by(worths, leader):
    """Tell a tuple of worths, their things led."""
    return tuple([worth_by(worth, leader) for worth in worths])


def end_by(end, leader):
    """Tell the end of a stretch, its worth's things led."""
    return end[:1] + worths_by(end[1:], leader)


def room_by(room, leader):
    """Tell a room, or None, led."""
    return None if room is None else leader.of(room)


def up_by(up, leader):
    """Tell what is around a room, or what a closure or a giver has of a deed and a room, led."""
    if isinstance(up, tuple):
        deed, room = up
        return (deed, room_by(room, leader))
    return room_by(up, leader)


def frame_by(frame, leader):
    """Tell a giver's frame, the things led in what its loops and lasts hold."""
    if frame[0] != "gave":
        return frame
    word, path, loops = frame
    return (word, path, tuple([held_by_loop(loop, leader) for loop in loops]))


def held_by_loop(loop, leader):
    """Tell what a frame has of an each, or of a last, its things led."""
    if len(loop) == 1:
        return (end_by(loop[0], leader),)
    worths, turn = loop
    return (worths_by(worths, leader), turn)


def place_by(place, leader):
    """Tell a place, its thing led."""
    if is_of_thing(place):
        return (place[0], leader.of(place[1])) + place[2:]
    return place


def was_by(place, was, leader):
    """Tell what was there at a place, its things led; () where nothing was."""
    if was == ():
        return ()
    if place[0] in ("field", "cell"):
        return worths_by(was, leader)
    if place[0] == "up":
        return (up_by(was[0], leader),)
    if place[0] == "frame":
        return (frame_by(was[0], leader),)
    return was


def handed_by(word, handed, leader):
    """Tell what was handed to a stretch of a text that begins with a word, its things led."""
    if word == "module":
        return handed
    room, told = handed
    if word == "deed":
        return (room_by(room, leader), worths_by(told, leader))
    # What has no worth is handed None, which is one, too.
    return (room_by(room, leader), worth_by(told, leader))


def effect_by(effect, leader):
    """Tell an effect, its things led."""
    word = effect[0]
    if word == "make":
        _, k, sort, up = effect
        return (word, leader.of(k), sort, up_by(up, leader))
    if word == "frame":
        _, t, frame = effect
        return (word, leader.of(t), frame_by(frame, leader))
    if word == "field":
        _, t, name, worth = effect
        return (word, leader.of(t), name, worth_by(worth, leader))
    if word == "out":
        _, t, name = effect
        return (word, leader.of(t), name)
    if word == "cell":
        return effect[:3] + worths_by(effect[3:], leader)
    return effect


def record_by(record, leader):
    """Tell a record, its things led."""
    text, handed, reads, effects, end, steps, deep = record
    return (
        text,
        handed_by(text[0], handed, leader),
        tuple([(place_by(place, leader), was_by(place, was, leader)) for place, was in reads]),
        tuple([effect_by(effect, leader) for effect in effects]),
        end_by(end, leader),
        steps,
        deep,
    )
