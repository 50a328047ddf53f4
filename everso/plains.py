"""Plain runs: a program gone from the start on the worths that wells have."""

from everso.bounds import DEEP, MOST
from everso.telling import asked_of, cell_of, cells_of, gone_plainly, there_in, thing_of


class Plain:
    """A run of a program, gone till it waits or ends."""

    def __init__(self, program, wells, *, most=MOST, deep=DEEP):
        self.machine = gone_plainly(program, wells, most, deep)

    def sayings(self):
        """Tell what was said."""
        return tuple(self.machine.store.said)

    def stand(self):
        """Tell for which well the run waits, or how it ended."""
        return self.machine.stand_now

    def cell(self, module, name):
        """Tell a module's field, NoCell where it isn't there."""
        return cell_of(self.machine, module, name)

    def cells(self, module):
        """Tell the names of a module's fields, NoModule where it isn't there."""
        return cells_of(self.machine, module)

    def things(self):
        """Tell how many things there are."""
        return self.machine.store.made

    def thing(self, k):
        """Tell what a thing is, with its fields; NoThing where it isn't there."""
        return thing_of(self.machine, k)

    def steps(self):
        """Tell how many steps were made."""
        return self.machine.many_steps

    def asked(self, well):
        """Tell how many worths a well has given."""
        return asked_of(self.machine, well)

    def there(self, place):
        """Tell what is there at a place, in a tuple of one, () where nothing is."""
        return there_in(self.machine, place)
