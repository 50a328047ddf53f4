"""What a run is asked, and how it is gone plainly."""

from everso.errors import NoCell, NoModule, NoThing
from everso.going import begin_modules, go
from everso.leading import led_rows
from everso.machines import Machine
from everso.places import is_number, is_place
from everso.stores import Store, places_of
from everso.watching import Tracer
from everso.worths import is_name


def machine_of(program, wells, watch, most, deep):
    """Tell the machine of a program with (well, worths) each, gone as far as it goes."""
    machine = Machine(Store(places_of(program, wells)), watch, most, deep)
    begin_modules(machine, [led_rows(name, rows) for name, rows in in_order(program)])
    go(machine)
    return machine


def in_order(program):
    """Tell (name, rows) of each module in the order in which they are gone, main's last."""
    named = [(name, rows) for name, _, _, rows in program]
    others = [pair for pair in named if pair[0] != "main"]
    return others + [pair for pair in named if pair[0] == "main"]


def gone_plainly(program, wells, most, deep):
    """Tell the machine of a program that was gone plainly."""
    return machine_of(program, wells, Tracer(), most, deep)


def names_of_cells(machine, module):
    """Tell the names of a module's fields, None of anything that is no module there."""
    if not is_name(module):
        return None
    names, = machine.store.there(("cells", module)) or (None,)
    return names


def cell_of(machine, module, name):
    """Tell a module's field, NoCell where it isn't there."""
    names = names_of_cells(machine, module)
    if names is None or name not in names:
        raise NoCell(name)
    return machine.store.there(("cell", module, name))[0]


def cells_of(machine, module):
    """Tell the names of a module's fields, NoModule where it isn't there."""
    names = names_of_cells(machine, module)
    if names is None:
        raise NoModule(module)
    return names


def thing_of(machine, k):
    """Tell what a thing is, with the fields of one of a kind; NoThing where it isn't there."""
    store = machine.store
    if not is_number(k) or k >= store.made:
        raise NoThing(k)
    sort, = store.there(("sort", k))
    if sort[0] != "kind":
        return sort
    names, = store.there(("names", k))
    return (sort, tuple([(name, store.there(("field", k, name))[0]) for name in names]))


def asked_of(machine, well):
    """Tell how many worths a well has given, 0 of anything that is none."""
    return machine.store.there(("asked", well))[0] if is_name(well) else 0


def there_in(machine, place):
    """Tell what is there at a place, () of anything that is none."""
    return machine.store.there(place) if is_place(place) else ()
