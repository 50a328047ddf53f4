"""Texts of programs: each program has just one, a line for each module."""

from everso.brackets import only_tree
from everso.errors import NoText
from everso.forms import EXPRESSIONS, LISTS, NAMED, PERHAPS, ROWS, TUPLES, VERBS
from everso.programs import is_module, is_program
from everso.worthtexts import show_worth, worth_of


def show_program(program):
    """Tell the text of a program."""
    return "\n".join([show_module(module) for module in program])


def show_module(module):
    """Tell the line of a module."""
    return bracketed(["module"] + show_parts(TUPLES["module"], module))


def bracketed(texts):
    """Tell the text of texts that stand in brackets."""
    return "(" + " ".join(texts) + ")"


def show_parts(slots, parts):
    """Tell the texts of what stands in several slots."""
    return [show_part(slot, part) for slot, part in zip(slots, parts)]


def show_part(slot, part):
    """Tell the text of what stands in a slot."""
    if slot in LISTS:
        return bracketed([show_part(LISTS[slot], inner) for inner in part])
    if slot in NAMED:
        return bracketed([show_named(NAMED[slot], pair) for pair in part])
    if slot in PERHAPS and part is None:
        return "-"
    if slot not in SHOWERS:
        return part
    show = SHOWERS[slot]
    return show(part)


def show_named(slot, pair):
    """Tell the text of a deed or a kind with its name."""
    name, part = pair
    return bracketed([name] + show_parts(TUPLES[slot], part))


def show_expression(expression):
    """Tell the text of an expression."""
    word, *parts = expression
    if word == "name":
        return parts[0]
    if word == "word":
        verb, many = parts
        return bracketed([verb] + [show_expression(one) for one in many])
    if word == "worth":
        return bracketed(["=", show_worth(parts[0])])
    return bracketed([word] + show_parts(EXPRESSIONS[word], parts))


def show_row(row):
    """Tell the text of a row."""
    word, *parts = row
    return bracketed([word] + show_parts(ROWS[word], parts))


def show_caught(caught):
    """Tell the text of what a try has for a raised worth."""
    return bracketed(show_parts(TUPLES["caught"], caught))


def show_above(above):
    """Tell the text of the kind above a kind."""
    return ":".join(above)


SHOWERS = {
    "takes": bracketed,
    "one": show_expression,
    "row": show_row,
    "caught": show_caught,
    "above": show_above,
}


def read_program(text):
    """Tell the program of which this is the text; of anything else NoText(line)."""
    if not isinstance(text, str):
        raise NoText(-1)
    program = tuple([read_module(line, k) for k, line in enumerate(text.split("\n"))])
    if not is_program(program):
        raise NoText(-1)
    return program


def read_module(line, k):
    """Tell the module of which this is the line of number k; of anything else NoText(k)."""
    try:
        module = module_of(only_tree(line))
    except NoText:
        raise NoText(k) from None
    # What is read freely is let just where it is the very line that would be written.
    if not is_module(module) or show_module(module) != line:
        raise NoText(k)
    return module


# Each of these tells what a tree writes in a slot, be it that or nearly that, and NoText(0)
# where it is far from that.


def module_of(tree):
    """Tell the module that a tree writes."""
    word, trees = worded(tree)
    if word != "module":
        raise NoText(0)
    return parts_of(TUPLES["module"], trees)


def worded(tree):
    """Tell the word with which a tree in brackets begins, and the trees behind it."""
    trees = within(tree)
    if not trees or not isinstance(trees[0], str):
        raise NoText(0)
    return (trees[0], trees[1:])


def within(tree):
    """Tell the trees in the brackets of a tree."""
    if isinstance(tree, str) or tree[0] != "(":
        raise NoText(0)
    return tree[1]


def parts_of(slots, trees):
    """Tell what trees write in as many slots."""
    if len(slots) != len(trees):
        raise NoText(0)
    return tuple([part_of(slot, tree) for slot, tree in zip(slots, trees)])


def part_of(slot, tree):
    """Tell what a tree writes in a slot."""
    if slot in LISTS:
        return tuple([part_of(LISTS[slot], inner) for inner in within(tree)])
    if slot in NAMED:
        return tuple([named_of(NAMED[slot], inner) for inner in within(tree)])
    if slot in PERHAPS and tree == "-":
        return None
    if slot not in READERS:
        return tree
    read = READERS[slot]
    return read(tree)


def named_of(slot, tree):
    """Tell the pair of a name and a deed or a kind that a tree writes."""
    name, trees = worded(tree)
    return (name, parts_of(TUPLES[slot], trees))


def above_of(tree):
    """Tell the kind above a kind that a tree writes."""
    if not isinstance(tree, str):
        raise NoText(0)
    module, _, name = tree.partition(":")
    return (module, name)


def caught_of(tree):
    """Tell what a tree writes that a try has for a raised worth."""
    return parts_of(TUPLES["caught"], within(tree))


def row_of(tree):
    """Tell the row that a tree writes."""
    word, trees = worded(tree)
    if word not in ROWS:
        raise NoText(0)
    return (word,) + parts_of(ROWS[word], trees)


def expression_of(tree):
    """Tell the expression that a tree writes."""
    if isinstance(tree, str):
        return ("name", tree)
    word, trees = worded(tree)
    if word in VERBS:
        return ("word", word, tuple([expression_of(one) for one in trees]))
    if word == "=" and len(trees) == 1:
        return ("worth", worth_of(trees[0]))
    if word not in EXPRESSIONS:
        raise NoText(0)
    return (word,) + parts_of(EXPRESSIONS[word], trees)


READERS = {
    "takes": within,
    "above": above_of,
    "caught": caught_of,
    "row": row_of,
    "one": expression_of,
}
