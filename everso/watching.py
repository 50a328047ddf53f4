"""What is told of a run that goes plainly: its counts ahead of each step."""


def counts_of(machine):
    """Tell how many sayings and things there are, and how many calls and wakings stand."""
    store = machine.store
    return (len(store.said), store.made, machine.standing)


class Tracer:
    """The counts of a run that goes plainly, by how many steps have begun."""

    def __init__(self):
        self.trace = []

    def step_begins(self, machine):
        """Keep the counts ahead of a step."""
        self.trace.append(counts_of(machine))

    def begun(self, machine, text, handed):
        """Take no record for a stretch."""
        return None

    def ended(self, machine, end):
        """Keep nothing of a stretch."""
