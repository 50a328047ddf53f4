"""Runs: programs that may be put otherwise while they run."""

from everso.bounds import DEEP, KEEP, MOST
from everso.edits import edited
from everso.errors import Busy, NoEdit, NoName, NoProgram, NoStep, NotYet, NoWorth, Said, TooDeep, TooLong
from everso.going import go
from everso.places import is_number
from everso.programs import is_program
from everso.recording import Recorder
from everso.taking import Shelf
from everso.telling import asked_of, cell_of, cells_of, gone_plainly, machine_of, there_in, thing_of
from everso.watching import counts_of
from everso.worths import are_alike, is_name, is_plain


class Run:
    """A run that goes on as worths are told, speaks, and may be changed."""

    def __init__(self, program, *, most=MOST, deep=DEEP, keep=KEEP):
        if not is_program(program):
            raise NoProgram()
        self.text = program
        self.most = most
        self.deep = deep
        self.keep = keep
        self.worths = {}
        self.many_spoken = 0
        self.is_speaking = False
        self.many_gone = 0
        # A plain run of the same, made only where steps are asked for.
        self.traced = None
        self.machine = machine_of(program, (), Recorder(None), most, deep)
        self.machine.watch.make_records(self.machine.store, keep)

    def program(self):
        """Tell the present program."""
        return self.text

    def wells(self):
        """Tell (name, worths) of each well that was told one, rising."""
        return rising_wells(self.worths)

    def tell(self, well, worth):
        """Tell a well its next worth, and go on."""
        self.check_free()
        if not is_name(well):
            raise NoName()
        if not is_plain(worth):
            raise NoWorth()
        worths = self.worths.get(well, ())
        # What is refused changes nothing: so another machine goes, till it is known to be let.
        machine = self.machine.copy()
        machine.store.places[("told", well, len(worths))] = (worth,)
        if machine.stand_now == ("waits", well):
            machine.stand_now = None
            go(machine)
        machine.watch.make_records(machine.store, self.keep)
        self.machine = machine
        self.worths[well] = worths + (worth,)
        self.traced = None

    def check_free(self):
        """Raise Busy while a saying is spoken."""
        if self.is_speaking:
            raise Busy()

    def speak(self, many=1, *, mouth=None):
        """Speak the next sayings, each to the mouth; tell them."""
        self.check_free()
        sayings = self.sayings()
        if not is_number(many) or many > len(sayings) - self.many_spoken:
            raise NotYet(many)
        spoken = sayings[self.many_spoken:self.many_spoken + many]
        for saying in spoken:
            if mouth is not None:
                self.hand_to(mouth, saying)
            self.many_spoken += 1
        return spoken

    def hand_to(self, mouth, saying):
        """Call the mouth with a saying; whatever it raises goes on."""
        self.is_speaking = True
        try:
            mouth(saying)
        finally:
            self.is_speaking = False

    def busy(self):
        """Tell whether a saying is spoken now."""
        return self.is_speaking

    def spoken(self):
        """Tell how many sayings were spoken."""
        return self.many_spoken

    def records(self):
        """Tell (outer, record) of each record, outer the number of the nearest one around it."""
        return self.machine.watch.kept_records()

    def change(self, edits):
        """Put the program, or what was told, otherwise."""
        self.check_free()
        program, worths, machine = self.changed(edits)
        machine.watch.make_records(machine.store, self.keep)
        self.text = program
        self.worths = worths
        self.machine = machine
        self.many_gone = gone_steps(machine)
        self.traced = None

    def changed(self, edits):
        """Tell what a change comes to, (program, worths by wells, machine), where it is let."""
        program, worths = edited(self.text, self.worths, edits)
        recorder = Recorder(Shelf(self.records()))
        machine = machine_of(program, rising_wells(worths), recorder, self.most, self.deep)
        self.check_said(machine.store.said)
        return (program, worths, machine)

    def check_said(self, said):
        """Raise Said where other sayings don't begin with those that were spoken."""
        for k, one in enumerate(self.sayings()[:self.many_spoken]):
            other = tuple(said[k:k + 1])
            if not other or not are_alike(one, other[0]):
                raise Said(k, (one,), other)

    def gone(self):
        """Tell how many steps of the last change weren't those of taken records."""
        return self.many_gone

    def would(self, edits):
        """Tell what a change would come to; nothing is changed."""
        try:
            _, _, machine = self.changed(edits)
        except NoEdit as no_edit:
            return ("refused", "NoEdit", (no_edit.k,))
        except NoProgram:
            return ("refused", "NoProgram", ())
        except TooLong as too_long:
            return ("refused", "TooLong", (too_long.most,))
        except TooDeep as too_deep:
            return ("refused", "TooDeep", (too_deep.deep,))
        except Said as was_said:
            return ("refused", "Said", (was_said.k, was_said.one, was_said.other))
        return ("let", tuple(machine.store.said), machine.stand_now, gone_steps(machine))

    def at(self, step):
        """Tell how many sayings and things there were, and calls and wakings stood, behind so many steps."""
        if not is_number(step) or step > self.steps():
            raise NoStep(step)
        if self.traced is None:
            self.traced = gone_plainly(self.text, self.wells(), self.most, self.deep)
        trace = self.traced.watch.trace
        return trace[step] if step < len(trace) else counts_of(self.traced)

    def sayings(self):
        """Tell what was said."""
        return tuple(self.machine.store.said)

    def stand(self):
        """Tell for which well the run waits, or how it ended."""
        return self.machine.stand_now

    def cell(self, module, name):
        """Tell a module's field, NoCell where it isn't there."""
        return cell_of(self.machine, module, name)

    def cells(self, module):
        """Tell the names of a module's fields, NoModule where it isn't there."""
        return cells_of(self.machine, module)

    def things(self):
        """Tell how many things there are."""
        return self.machine.store.made

    def thing(self, k):
        """Tell what a thing is, with its fields; NoThing where it isn't there."""
        return thing_of(self.machine, k)

    def steps(self):
        """Tell how many steps the plain run makes."""
        return self.machine.many_steps

    def asked(self, well):
        """Tell how many worths a well has given."""
        return asked_of(self.machine, well)

    def there(self, place):
        """Tell what is there at a place, in a tuple of one, () where nothing is."""
        return there_in(self.machine, place)


def rising_wells(worths):
    """Tell (name, worths) of each well, rising."""
    return tuple([(well, worths[well]) for well in sorted(worths)])


def gone_steps(machine):
    """Tell how many steps weren't those of taken records."""
    return machine.many_steps - machine.watch.taken_steps
