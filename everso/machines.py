"""A run under way: what stands upon one another in it, and its bounds."""

from everso.errors import TooDeep, TooLong


class Machine:
    """A run as it goes.

    What is going stands on a stack of frames. Where something has ended, its end waits in
    `end` till the frame beneath takes it. `stand` is None while the run goes, then it tells
    why it goes no further. A watch is told of each step and of each stretch.
    """

    def __init__(self, store, watch, most, deep):
        self.store = store
        self.watch = watch
        self.most = most
        self.deep = deep
        self.many_steps = 0
        self.standing = 0
        self.highest = 0
        self.room = None
        self.stack = []
        self.end = None
        self.stand_now = None

    def copy(self):
        """Tell a machine that goes on as this one, which waits or has ended, and shares nothing that changes."""
        machine = Machine(self.store.copy(), self.watch.copy(), self.most, self.deep)
        machine.many_steps = self.many_steps
        machine.standing = self.standing
        machine.highest = self.highest
        machine.room = self.room
        machine.stack = [dict(frame) for frame in self.stack]
        machine.stand_now = self.stand_now
        return machine

    def begin_step(self):
        """Make a step, TooLong where it is one too many."""
        if self.many_steps >= self.most:
            raise TooLong(self.most)
        self.watch.step_begins(self)
        self.many_steps += 1

    def stand_upon(self):
        """Let a call or a waking stand upon the others, TooDeep where it is one too many."""
        if self.standing >= self.deep:
            raise TooDeep(self.deep)
        self.standing += 1
        self.highest = max(self.highest, self.standing)

    def begin(self, frame, text, handed):
        """Begin a stretch with its frame; tell whether it is gone, else its end is there at once."""
        self.stack.append(frame)
        self.end = self.watch.begun(self, text, handed)
        frame["begun"] = self.end is None
        return frame["begun"]

    def end_stretch(self, frame, end):
        """End the stretch that was begun with a frame, if one was."""
        if frame["begun"]:
            self.watch.ended(self, end)

    def deliver(self, worth):
        """Hand a worth to the frame that waits for it."""
        frame = self.stack[-1]
        frame["worths"] += (worth,)
