"""What many modules need: refusing, whole numbers, rising tuples, and the sizes of nested tuples."""

from leavebook.errors import NoText, Refused

FIGURES = "0123456789"
MOST_NESTED = 24
MOST_DEEP = 5


def refuse_where(due, word):
    """Refuses with the word where it is due."""
    if due:
        raise Refused(word)


def is_whole(thing, least):
    """True of a whole number from least on."""
    return isinstance(thing, int) and not isinstance(thing, bool) and thing >= least


def is_tuple_from_to(thing, least, most):
    """True of a tuple with at least so many things and at most so many."""
    return isinstance(thing, tuple) and least <= len(thing) <= most


def is_rising(things):
    """True where the things, which can be compared, are sorted, each once."""
    return all(things[at] < things[at + 1] for at in range(len(things) - 1))


def whole_text(number):
    """The figures of a whole number from 0 on."""
    # Figure by figure: Python's own str fails on numbers of very many figures.
    figures = []
    while number > 9:
        number, last = divmod(number, 10)
        figures.append(FIGURES[last])
    figures.append(FIGURES[number])
    return "".join(figures[::-1])


def read_whole(text):
    """The whole number that the text writes, or NoText."""
    if not text or (text[0] == "0" and text != "0"):
        raise NoText("no whole number")
    number = 0
    for sign in text:
        if sign not in FIGURES:
            raise NoText("no whole number")
        number = number * 10 + FIGURES.index(sign)
    return number


def size_of(thing, deep, parts_of):
    """How many nodes a nested thing has, or 0 where it is none or goes deeper than deep.

    parts_of tells the list of what is nested directly in a thing, or None where it is no node.
    """
    parts = parts_of(thing) if deep > 0 else None
    if parts is None:
        return 0
    sizes = [size_of(part, deep - 1, parts_of) for part in parts]
    return 0 if 0 in sizes else 1 + sum(sizes)


def is_nested(thing, parts_of):
    """True of a nested thing within the bounds that rules and papers share."""
    return 1 <= size_of(thing, MOST_DEEP, parts_of) <= MOST_NESTED
