"""Texts in brackets, as those of worths and of programs are.

A text is cut into pieces: brackets, texts in quotes, and words, which run to the next blank,
quote or bracket. Of these come trees: a piece that is no bracket is one, and so is what stands
in brackets, as (bracket, trees).
"""

from everso.errors import NoText

PARTING_SIGNS = "()[] '"
# By the bracket that closes it, the one that it closes.
CLOSED = {")": "(", "]": "["}
# No program in its bounds has as many brackets open; of deeper texts nothing is told, and they
# are refused here, so that what reads them never goes as deep as Python can't.
MOST_OPEN = 160


def only_tree(text):
    """Tell the tree that a text is, NoText(0) where it isn't just one."""
    trees = trees_of(text)
    if len(trees) != 1:
        raise NoText(0)
    return trees[0]


def trees_of(text):
    """Tell the trees that a text is, NoText(0) where its brackets aren't each closed by its own."""
    standing = [("", [])]
    for piece in pieces_of(text):
        if piece in ("(", "["):
            standing.append((piece, []))
        elif piece in CLOSED:
            bracket, trees = standing.pop()
            if bracket != CLOSED[piece]:
                raise NoText(0)
            standing[-1][1].append((bracket, tuple(trees)))
        else:
            standing[-1][1].append(piece)
        if len(standing) - 1 > MOST_OPEN:
            raise NoText(0)
    if len(standing) > 1:
        raise NoText(0)
    return standing[0][1]


def pieces_of(text):
    """Tell the pieces of a text, in order, but blanks."""
    pieces = []
    at = 0
    while at < len(text):
        end = end_of_piece(text, at)
        pieces.append(text[at:end])
        at = end
    return [piece for piece in pieces if piece != " "]


def end_of_piece(text, at):
    """Tell where the piece ends that begins at a sign of a text."""
    if text[at] == "'":
        return end_of_quoted(text, at)
    end = at + 1
    if text[at] in PARTING_SIGNS:
        return end
    while end < len(text) and text[end] not in PARTING_SIGNS:
        end += 1
    return end


def end_of_quoted(text, at):
    """Tell where the text in quotes ends that begins at a sign, NoText(0) where it doesn't end."""
    closing = text.find("'", at + 1)
    if closing < 0:
        raise NoText(0)
    return closing + 1
