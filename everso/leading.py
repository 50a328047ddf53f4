"""Led texts: deeds and rows in which each name says whose it is."""

from everso.forms import EXPRESSIONS, LISTS, ROWS, TUPLES


def led_deed(module, deed):
    """Tell the led text of a deed of a module that stands in no other deed."""
    takes, rows = deed
    return (takes, led_inner(takes, rows, (module, ())))


def led_rows(module, rows):
    """Tell the led text of a module's own rows."""
    return led_part("rows", rows, (module, ()))


# A scope is the module in which a text stands, and the own names of each deed around it,
# the nearest one first.


def led_inner(takes, rows, scope):
    """Tell the led rows of a deed that stands in a scope."""
    module, owns = scope
    return led_part("inner", rows, (module, (own_names(takes, rows),) + owns))


def own_names(takes, rows):
    """Tell the own names of a deed."""
    names = list(takes)
    pending = list(rows)
    while pending:
        row = pending.pop()
        for slot, part in zip(ROWS[row[0]], row[1:]):
            if slot == "own":
                names.append(part)
            elif slot in LISTS:
                pending.extend(part)
            elif slot == "caught" and part is not None:
                names.append(part[0])
                pending.extend(part[1])
    return tuple(names)


def led_part(slot, part, scope):
    """Tell the led text of what stands in a slot."""
    if slot in LISTS:
        return tuple([led_part(LISTS[slot], inner, scope) for inner in part])
    if slot not in LEADERS:
        return part
    lead = LEADERS[slot]
    return lead(part, scope)


def led_name(name, scope):
    """Tell the led text of a name: whose it is."""
    module, owns = scope
    for k, own in enumerate(owns):
        if name in own:
            return ("around", k, name) if k else ("own", name)
    return ("cell", module, name)


def led_kept(name, scope):
    """Tell the led text of the name of a keep."""
    module, _ = scope
    return ("cell", module, name)


def led_expression(expression, scope):
    """Tell the led text of an expression."""
    word, *parts = expression
    if word == "name":
        return led_name(parts[0], scope)
    if word == "deed":
        takes, rows = parts
        return ("deed", takes, led_inner(takes, rows, scope))
    return (word,) + led_parts(EXPRESSIONS[word], parts, scope)


def led_row(row, scope):
    """Tell the led text of a row."""
    word, *parts = row
    led_word = "let" if word == "keep" else word
    return (led_word,) + led_parts(ROWS[word], parts, scope)


def led_caught(caught, scope):
    """Tell the led text of what a try has for a raised worth, None where it has nothing."""
    if caught is None:
        return None
    return led_parts(TUPLES["caught"], caught, scope)


def led_parts(slots, parts, scope):
    """Tell the led texts of what stands in several slots."""
    return tuple([led_part(slot, part, scope) for slot, part in zip(slots, parts)])


LEADERS = {
    "own": led_name,
    "kept": led_kept,
    "one": led_expression,
    "row": led_row,
    "caught": led_caught,
}
