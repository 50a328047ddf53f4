"""What stands in rows, led or not: their expressions, their bodies, a give."""

from everso.forms import EXPRESSIONS, ROWS


def expressions_of(expression):
    """Tell the expressions that are gone ahead of an expression, in order."""
    return expressions_by(EXPRESSIONS.get(expression[0], ()), expression)


def expressions_ahead(row):
    """Tell the expressions that are gone as a row begins, in order."""
    # The test of a while is gone anew in each of its turns.
    return () if row[0] == "while" else expressions_by(ROWS[row[0]], row)


def expressions_by(slots, thing):
    """Tell the expressions that stand straight in an expression or a row, by its slots."""
    found = ()
    for slot, part in zip(slots, thing[1:]):
        if slot == "one":
            found += (part,)
        elif slot == "many":
            found += part
    return found


def bodies_of(row):
    """Tell the bodies of a row, by their numbers; None where a try has no caught."""
    found = []
    for slot, part in zip(ROWS[row[0]], row[1:]):
        if slot in ("rows", "turns"):
            found.append(part)
        elif slot == "caught":
            found.append(None if part is None else part[1])
    return found


def bears_give(rows):
    """Tell whether a give stands in rows, but in the deeds within."""
    pending = list(rows)
    while pending:
        row = pending.pop()
        if row[0] == "give":
            return True
        for body in bodies_of(row):
            pending.extend(body or ())
    return False
