"""What breaks off what is going."""


class Raising(Exception):
    """A worth is raised in a run."""

    def __init__(self, worth):
        self.worth = worth


class NotSo(Exception):
    """What a record says of its stretch isn't so."""
