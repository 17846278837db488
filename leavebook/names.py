"""Names, and hands as rising tuples of names."""

from leavebook.basics import is_rising, is_tuple_from_to
from leavebook.errors import NoText

LETTERS = "abcdefghijklmnopqrstuvwxyz"
MOST_LETTERS = 6


def is_name(thing):
    """True of a text of one to six letters a to z."""
    if not isinstance(thing, str) or not 1 <= len(thing) <= MOST_LETTERS:
        return False
    return all(sign in LETTERS for sign in thing)


def is_names(thing):
    """True of a rising tuple of names, perhaps none."""
    return isinstance(thing, tuple) and all(is_name(name) for name in thing) and is_rising(thing)


def is_names_from_to(thing, least, most):
    """True of a rising tuple of at least so many names and at most so many."""
    return is_tuple_from_to(thing, least, most) and is_names(thing)


def name_at(number):
    """The name of this number, from 0, when all names are told, shorter ones first."""
    letters = []
    left = number + 1
    while left > 0:
        left, at = divmod(left - 1, len(LETTERS))
        letters.append(LETTERS[at])
    return "".join(letters[::-1])


def fresh_name(taken):
    """The first name that isn't one of the taken ones."""
    number = 0
    while name_at(number) in taken:
        number += 1
    return name_at(number)


def hands_text(hands):
    """The names with commas between, or a dash for none."""
    return ",".join(hands) if hands else "-"


def read_hands(text):
    """The hands that the text writes, or NoText."""
    if not isinstance(text, str):
        raise NoText("no text")
    hands = () if text == "-" else tuple(text.split(","))
    if not is_names(hands):
        raise NoText("no hands")
    return hands
