"""What holds: whether what a record was handed and read is what is there now, things led."""

from everso.numbering import Gatherer, handed_by, place_by, was_by


class Leads:
    """A map that leads things to things, one to one."""

    def __init__(self):
        self.ahead = {}
        self.back = {}

    def of(self, k):
        """Tell the thing to which one is led that is in the map."""
        return self.ahead[k]

    def put(self, one, other):
        """Lead a thing to another one, both new in the map."""
        self.ahead[one] = other
        self.back[other] = one

    def joins(self, one, other):
        """Tell whether a thing is led to another one, be it from now on, where both are new."""
        if one not in self.ahead and other not in self.back:
            self.put(one, other)
        return self.ahead.get(one) == other

    def pairs(self):
        """Tell the pairs of the map, rising."""
        return tuple(sorted(self.ahead.items()))


def are_same(one, other):
    """Tell whether two things are the same, True and 1 apart."""
    # Python takes True for 1, but writes them otherwise.
    return one == other and repr(one) == repr(other)


def match_handed(word, one, other, leads):
    """Tell whether what was handed matches, by a map that grows."""
    gatherer, now = Gatherer(), Gatherer()
    is_alike = are_same(handed_by(word, one, gatherer), handed_by(word, other, now))
    return is_alike and match_numbers(gatherer, now, leads)


def match_read(place, one, other, leads):
    """Tell whether what was there at a place matches, by a map that grows."""
    gatherer, now = Gatherer(), Gatherer()
    is_alike = are_same(was_by(place, one, gatherer), was_by(place, other, now))
    return is_alike and match_numbers(gatherer, now, leads)


def match_numbers(gatherer, now, leads):
    """Tell whether the numbers of things match that stand at the same places of two things."""
    return all([leads.joins(one, other) for one, other in zip(gatherer.numbers, now.numbers)])


def held_leads(record, machine, handed):
    """Tell the map by which a record holds with this handed on what stands now, else None."""
    text, was_handed, reads, _, _, steps, deep = record
    if machine.many_steps + steps > machine.most or machine.standing + deep > machine.deep:
        return None
    leads = Leads()
    if not match_handed(text[0], was_handed, handed, leads):
        return None
    for place, was in reads:
        if not match_read(place, was, machine.store.there(place_by(place, leads)), leads):
            return None
    return leads
