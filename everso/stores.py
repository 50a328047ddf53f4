"""What stands in a run: what is there at each place, and what was read and done there."""

from everso.leading import led_deed


class Store:
    """What is there at each place, how many things were made, what was said, and the log.

    A place that has nothing stands among the places with () or not at all. The log has all
    that was read, as ("read", place, what was there), and all effects, in their order.
    """

    def __init__(self, places):
        self.places = places
        self.made = 0
        self.said = []
        self.log = []

    def copy(self):
        """Tell a store in which the same stands."""
        store = Store({place: self.places[place] for place in self.places})
        store.made = self.made
        store.said = list(self.said)
        store.log = list(self.log)
        return store

    def there(self, place):
        """Tell what is there at a place, in a tuple of one, () where nothing is."""
        nothing = (0,) if place[0] == "asked" else ()
        return self.places.get(place, nothing)

    def read(self, place):
        """Tell what is there at a place; it is read."""
        was = self.there(place)
        self.log.append(("read", place, was))
        return was

    def waits(self, well):
        """Tell whether a well has no next worth yet."""
        many, = self.there(("asked", well))
        return self.there(("told", well, many)) == ()

    def do(self, effect):
        """Do an effect."""
        self.log.append(effect)
        do = EFFECTS[effect[0]]
        do(self, effect)

    def make(self, sort, up):
        """Make a thing; its number is told."""
        k = self.made
        self.do(("make", k, sort, up))
        return k


def do_make(store, effect):
    """Make a thing of a kind, a room, a closure or a giver."""
    _, k, sort, up = effect
    store.made = k + 1
    store.places[("sort", k)] = (sort,)
    if sort[0] == "kind":
        store.places[("names", k)] = ((),)
    else:
        store.places[("up", k)] = (up,)
    if sort[0] == "giver":
        store.places[("frame", k)] = (("new",),)


def do_field(store, effect):
    """Put a field of a thing of a kind, or of a room, which has no names to be told."""
    _, t, name, worth = effect
    store.places[("field", t, name)] = (worth,)
    put_name(store, ("names", t), name)


def do_out(store, effect):
    """Take a field out of a thing of a kind."""
    _, t, name = effect
    store.places[("field", t, name)] = ()
    names, = store.places[("names", t)]
    store.places[("names", t)] = (tuple([other for other in names if other != name]),)


def do_cell(store, effect):
    """Put a field of a module; the names of its fields stand at a place of their own."""
    _, module, name, worth = effect
    store.places[("cell", module, name)] = (worth,)
    put_name(store, ("cells", module), name)


def put_name(store, place, name):
    """Put a name behind the names at a place, where there are some and it isn't among them."""
    names, = store.places.get(place, (None,))
    if names is not None and name not in names:
        store.places[place] = (names + (name,),)


def do_say(store, effect):
    """Say a worth."""
    store.said.append(effect[1])


def do_asked(store, effect):
    """Have a well given so many worths."""
    _, well, many = effect
    store.places[("asked", well)] = (many,)


def do_frame(store, effect):
    """Put the frame of a giver."""
    _, t, frame = effect
    store.places[("frame", t)] = (frame,)


EFFECTS = {
    "make": do_make,
    "field": do_field,
    "out": do_out,
    "cell": do_cell,
    "say": do_say,
    "asked": do_asked,
    "frame": do_frame,
}


def places_of(program, wells):
    """Tell what is there at first, by places, of a program and of (well, worths) each."""
    places = {}
    kinds = {}
    for module, deeds, own_kinds, _ in program:
        places[("cells", module)] = ((),)
        for name, deed in deeds:
            places[("cell", module, name)] = (("deed", module, name),)
            places[("deed", module, name)] = (led_deed(module, deed),)
        for name, (above, own_deeds) in own_kinds:
            places[("cell", module, name)] = (("kind", module, name),)
            kinds[(module, name)] = (above, [(own, led_deed(module, deed)) for own, deed in own_deeds])
    for kind in kinds:
        for name, deed in chain_of(kinds, kind):
            # The nearest deed of a name comes first.
            places.setdefault(("chain",) + kind + (name,), (deed,))
    for well, worths in wells:
        for k, worth in enumerate(worths):
            places[("told", well, k)] = (worth,)
    return places


def chain_of(kinds, kind):
    """Tell the deeds of a kind, then those of its above, and so on, till that isn't there or comes again."""
    found = []
    gone = {}
    while kind in kinds and kind not in gone:
        gone[kind] = True
        above, deeds = kinds[kind]
        found.extend(deeds)
        kind = above
    return found
