"""The records of a run's stretches."""

from everso.numbering import record_by
from everso.places import is_of_thing
from everso.taking import take


class Recorder:
    """What is kept of the stretches of a run, by their numbers, which are by their beginnings."""

    def __init__(self, shelf):
        # The records to take from, None where none are taken.
        self.shelf = shelf
        # Of each stretch the number of the one straight around it, or None.
        self.around = []
        self.under_way = []
        # What is known of those that ended since records were made last.
        self.over = {}
        self.kept = {}
        self.taken_steps = 0

    def copy(self):
        """Tell a recorder that goes on as this one behind a deed; it takes no records any more."""
        recorder = Recorder(None)
        recorder.around = list(self.around)
        recorder.under_way = list(self.under_way)
        recorder.kept = dict(self.kept)
        return recorder

    def step_begins(self, machine):
        """Keep nothing of a step."""

    def begun(self, machine, text, handed):
        """Begin a stretch; tell its end where a record is taken for it, else None."""
        outer = self.under_way[-1][0] if self.under_way else None
        number = self.numbered(outer)
        held = None if self.shelf is None else self.shelf.first_held(machine, text, handed)
        if held is not None:
            return self.taken(machine, number, held)
        store = machine.store
        counts = (len(store.log), store.made, machine.many_steps, machine.highest)
        self.under_way.append((number, text, handed, counts))
        machine.highest = machine.standing
        return None

    def numbered(self, outer):
        """Tell the number of a new stretch."""
        self.around.append(outer)
        return len(self.around) - 1

    def taken(self, machine, number, held):
        """Take a record for a stretch, with those in it; tell its end."""
        at, leads = held
        self.shelf.bar(at)
        stock = self.shelf.stock
        end = take(machine, stock[at][1], leads)
        self.taken_steps += stock[at][1][5]
        self.kept[number] = record_by(stock[at][1], leads)
        numbers = {at: number}
        for inner in self.shelf.within(at):
            outer, record = stock[inner]
            numbers[inner] = self.numbered(numbers[outer])
            self.kept[numbers[inner]] = record_by(record, leads)
        return end

    def ended(self, machine, end):
        """End the stretch that began last of those under way."""
        number, text, handed, counts = self.under_way.pop()
        mark, first, steps, highest = counts
        span = (mark, len(machine.store.log), first)
        made = (end, machine.many_steps - steps, machine.highest - machine.standing)
        self.over[number] = (text, handed, span, made)
        machine.highest = max(machine.highest, highest)

    def make_records(self, store, keep):
        """Keep records of the stretches that ended, at most so many in all."""
        steps = {number: self.kept[number][5] for number in self.kept}
        for number in self.over:
            steps[number] = self.over[number][3][1]
        # Those with the most steps stay, of alike ones the ones that began first.
        order = sorted([(-steps[number], number) for number in steps])
        kept = {}
        for _, number in order[:keep]:
            kept[number] = self.kept[number] if number in self.kept else self.record_of(number, store)
        self.kept = kept
        self.over = {}

    def record_of(self, number, store):
        """Tell the record of a stretch that ended."""
        text, handed, span, (end, steps, deep) = self.over[number]
        mark, mark_behind, first = span
        reads, effects = read_and_done(store.log[mark:mark_behind], first)
        return (text, handed, reads, effects, end, steps, deep)

    def kept_records(self):
        """Tell (outer, record) of each that is kept, by the stretches' beginnings."""
        numbers = sorted(self.kept)
        places = {number: at for at, number in enumerate(numbers)}
        return tuple([(self.outer_kept(number, places), self.kept[number]) for number in numbers])

    def outer_kept(self, number, places):
        """Tell the place of the nearest stretch around one that has a record, None where none has."""
        outer = self.around[number]
        while outer is not None and outer not in places:
            outer = self.around[outer]
        return None if outer is None else places[outer]


def read_and_done(log, first):
    """Tell the reads and the effects of a stretch, by its log and the number of its first thing."""
    reads, effects = [], []
    known = {}
    for event in log:
        if event[0] != "read":
            effects.append(event)
            known[written_place(event)] = True
            continue
        _, place, was = event
        is_made_within = is_of_thing(place) and place[1] >= first
        if place not in known and not is_made_within:
            known[place] = True
            reads.append((place, was))
    return tuple(reads), tuple(effects)


def written_place(effect):
    """Tell the place that an effect writes, () where it is one that was read ahead, or made within."""
    word = effect[0]
    if word == "out":
        return ("field",) + effect[1:]
    return effect[:3] if word in ("field", "cell") else ()
