"""Checkers: whether a record holds on what stands in a plain run."""

from everso.matching import held_leads


def held_by(record, plain, handed):
    """Tell the pairs (thing of the record, thing now) by which a record holds, None where it doesn't."""
    leads = held_leads(record, plain.machine, handed)
    return None if leads is None else leads.pairs()
