"""Whos: which hands are meant, by their names, groups and offices."""

from leavebook.basics import is_rising, is_tuple_from_to
from leavebook.errors import NoText
from leavebook.names import is_name

MARKS = {"group": "+", "hand": "", "office": "@"}
MOST_PARTS = 6


def is_who_part(thing):
    """True of a tuple (word, name)."""
    if not is_tuple_from_to(thing, 2, 2):
        return False
    # Asked first, as not every thing can be looked up in a dict.
    return isinstance(thing[0], str) and thing[0] in MARKS and is_name(thing[1])


def is_who(thing):
    """True of a rising tuple of one to six parts."""
    if not is_tuple_from_to(thing, 1, MOST_PARTS):
        return False
    return all(is_who_part(part) for part in thing) and is_rising(thing)


def who_text(who):
    """The parts with commas between, each with the mark of its word ahead."""
    return ",".join([MARKS[word] + name for word, name in who])


def part_in(text):
    """The part that the text would write; whether it is one is asked later."""
    if text.startswith("+"):
        return ("group", text[1:])
    if text.startswith("@"):
        return ("office", text[1:])
    return ("hand", text)


def read_who(text):
    """The who that the text writes, or NoText."""
    if not isinstance(text, str):
        raise NoText("no text")
    who = tuple([part_in(piece) for piece in text.split(",")])
    if not is_who(who):
        raise NoText("no who")
    return who
