"""What each word of an expression makes of worths; of others than it takes `kind` is raised."""

from everso.raising import Raising
from everso.worths import GREATEST, TEXT_SIGNS, are_alike, is_whole, is_worth

# The sort of a worth that is a tuple, by its word; that of a thing hangs on what it is.
SORTS = {"row": "row", "deed": "deed", "kind": "kind"}


def is_row(worth):
    """Tell whether a worth is a row."""
    return isinstance(worth, tuple) and worth[0] == "row"


def row_of(worths):
    """Tell the row of worths; `great` is raised where that would be no worth."""
    row = ("row", tuple(worths))
    if not is_worth(row):
        raise Raising("great")
    return row


def word_done(verb, worths):
    """Tell what a word makes of as many worths as it takes."""
    do = WORDS[verb]
    return do(*worths)


def check_numbers(one, other):
    """Raise `kind` where one of two worths is no number."""
    if not is_whole(one) or not is_whole(other):
        raise Raising("kind")


def bounded(number):
    """Tell a number again; `great` is raised where it is no worth."""
    if not -GREATEST <= number <= GREATEST:
        raise Raising("great")
    return number


def plus(one, other):
    """Tell the sum of two numbers."""
    check_numbers(one, other)
    return bounded(one + other)


def minus(one, other):
    """Tell the difference of two numbers."""
    check_numbers(one, other)
    return bounded(one - other)


def times(one, other):
    """Tell the product of two numbers."""
    check_numbers(one, other)
    return bounded(one * other)


def check_divisor(one, other):
    """Raise `kind` where one of two worths is no number, `nought` where the second is 0."""
    check_numbers(one, other)
    if other == 0:
        raise Raising("nought")


def over(one, other):
    """Tell the quotient of two numbers, rounded down."""
    check_divisor(one, other)
    return one // other


def rest(one, other):
    """Tell what the quotient of two numbers, rounded down, leaves over."""
    check_divisor(one, other)
    return one - one // other * other


def less(one, other):
    """Tell whether a number, or a text, is less than another one."""
    if not isinstance(one, str) or not isinstance(other, str):
        check_numbers(one, other)
    return one < other


def same(one, other):
    """Tell whether two worths are alike."""
    return are_alike(one, other)


def negated(worth):
    """Tell the other truth."""
    if not isinstance(worth, bool):
        raise Raising("kind")
    return not worth


def joined(one, other):
    """Tell two texts, or two rows, as one."""
    if isinstance(one, str) and isinstance(other, str):
        if len(one) + len(other) > TEXT_SIGNS:
            raise Raising("great")
        return one + other
    if is_row(one) and is_row(other):
        return row_of(one[1] + other[1])
    raise Raising("kind")


def size(worth):
    """Tell how many signs a text has, how many parts a row."""
    if isinstance(worth, str):
        return len(worth)
    if is_row(worth):
        return len(worth[1])
    raise Raising("kind")


def part_at(row, number):
    """Tell the part of a row by its number."""
    if not is_row(row) or not is_whole(number):
        raise Raising("kind")
    if not 0 <= number < len(row[1]):
        raise Raising("beyond")
    return row[1][number]


def sort(worth):
    """Tell the sort of a worth that is no thing."""
    if worth is None:
        return "none"
    if isinstance(worth, bool):
        return "truth"
    if isinstance(worth, int):
        return "number"
    if isinstance(worth, str):
        return "text"
    return SORTS[worth[0]]


WORDS = {
    "plus": plus,
    "minus": minus,
    "times": times,
    "over": over,
    "rest": rest,
    "less": less,
    "same": same,
    "not": negated,
    "join": joined,
    "size": size,
    "at": part_at,
    "sort": sort,
}
