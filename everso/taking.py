"""The records that a change may take, and how one is taken."""

from everso.matching import held_leads
from everso.numbering import effect_by, end_by, place_by


class Shelf:
    """Records as a Run tells them, and which of them can't be taken any more."""

    def __init__(self, stock):
        self.stock = stock
        self.barred = {}
        self.by_text = {}
        for at, (_, record) in enumerate(stock):
            self.by_text.setdefault(repr(record[0]), []).append(at)

    def first_held(self, machine, text, handed):
        """Tell (number, map) of the first record that holds for a stretch, None where none does."""
        for at in self.by_text.get(repr(text), []):
            if at not in self.barred:
                leads = held_leads(self.stock[at][1], machine, handed)
                if leads is not None:
                    return (at, leads)
        return None

    def bar(self, at):
        """Let a record, those in its stretch and those around it be taken no more."""
        for inner in self.within(at):
            self.barred[inner] = True
        while at is not None:
            self.barred[at] = True
            at = self.stock[at][0]

    def within(self, at):
        """Tell the numbers of the records in a record's stretch, rising."""
        inside = {at: True}
        # Those in a stretch are numbered straight behind it.
        for inner in range(at + 1, len(self.stock)):
            if self.stock[inner][0] not in inside:
                break
            inside[inner] = True
        return [inner for inner in inside if inner != at]


def take(machine, record, leads):
    """Do what a record says, things led by a map that grows by what it makes; tell its end."""
    _, _, reads, effects, end, steps, deep = record
    store = machine.store
    for place, _ in reads:
        store.read(place_by(place, leads))
    for effect in effects:
        if effect[0] == "make":
            leads.put(effect[1], store.made)
        store.do(effect_by(effect, leads))
    machine.many_steps += steps
    machine.highest = max(machine.highest, machine.standing + deep)
    return end_by(end, leads)
