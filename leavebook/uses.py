"""Which leaves may be used still, and which hands are free to sign."""

from leavebook.leaves import is_open
from leavebook.stands import APARTS, ASKED_CASE, ASKED_DEED, ASKED_THING, ASKINGS, LEAVES, SIGNERS, row_of
from leavebook.terms import MOST, TOTAL


def has_room(stand, leave, amount):
    """True where the leave may be used once more, for this amount, by its most and its total."""
    name, terms, parents, times, spent = row_of(stand, LEAVES, leave)
    if terms[MOST] is not None and times >= terms[MOST]:
        return False
    return terms[TOTAL] is None or spent + amount <= terms[TOTAL]


def is_usable(stand, leave, amount):
    """True where the leave stands, is open, and has room for the amount."""
    return is_open(stand, leave) and has_room(stand, leave, amount)


def lie_apart(stand, thing, deed, other):
    """True of two unlike deeds that some deeds which lie apart on the thing have both."""
    if deed == other:
        return False
    return any(where == thing and deed in deeds and other in deeds for where, deeds in stand[APARTS])


def is_free(stand, hand, deed, thing, case):
    """True where the hand signed no done asking in this case for a deed that lies apart from this one."""
    for row in stand[ASKINGS]:
        same = row[ASKED_THING] == thing and row[ASKED_CASE] == case
        # Only a done asking has signers.
        if same and hand in row[SIGNERS] and lie_apart(stand, thing, deed, row[ASKED_DEED]):
            return False
    return True
