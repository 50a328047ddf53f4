"""Texts of worths: each worth has just one."""

from everso.brackets import only_tree
from everso.errors import NoText
from everso.worths import is_worth

WORDS = {"none": None, "yes": True, "no": False}
# The greatest number has no more; Python itself refuses to read very many.
MOST_FIGURES = 16


def show_worth(worth):
    """Tell the text of a worth."""
    if worth is None:
        return "none"
    if isinstance(worth, bool):
        return "yes" if worth else "no"
    if isinstance(worth, int):
        return str(worth)
    if isinstance(worth, str):
        return f"'{worth}'"
    return show_compound(worth)


def show_compound(worth):
    """Tell the text of a worth that is a tuple."""
    word, *rest = worth
    if word == "row":
        return "[" + " ".join([show_worth(part) for part in rest[0]]) + "]"
    if word == "thing":
        return "#" + str(rest[0])
    sign = "." if word == "deed" else ":"
    return sign.join(rest)


def read_worth(text):
    """Tell the worth of which this is the text; of anything else NoText(0)."""
    if not isinstance(text, str):
        raise NoText(0)
    worth = worth_of(only_tree(text))
    # What is read freely is let just where it is the very text that would be written.
    if not is_worth(worth) or show_worth(worth) != text:
        raise NoText(0)
    return worth


def worth_of(tree):
    """Tell what a tree writes, be it a worth or nearly one; NoText(0) where it is far from one."""
    if isinstance(tree, str):
        return single_of(tree)
    bracket, trees = tree
    if bracket != "[":
        raise NoText(0)
    return ("row", tuple([worth_of(part) for part in trees]))


def single_of(piece):
    """Tell what a piece writes that is no row."""
    if piece in WORDS:
        return WORDS[piece]
    if piece.startswith("'"):
        return piece[1:-1]
    if piece.startswith("#"):
        return ("thing", whole_of(piece[1:]))
    for word, sign in (("deed", "."), ("kind", ":")):
        module, found, name = piece.partition(sign)
        if found:
            return (word, module, name)
    return whole_of(piece)


def whole_of(text):
    """Tell the whole number that figures write, NoText(0) of other signs and of too many."""
    figures = text.removeprefix("-")
    if not figures.isascii() or not figures.isdigit() or len(figures) > MOST_FIGURES:
        raise NoText(0)
    return int(text)
