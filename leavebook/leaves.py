"""Which leaves stand and are open, and who may hand on by them."""

from leavebook.hands import hands_of
from leavebook.stands import LEAVES, NOW, OWNER, PARENTS, TERMS, owner_of, row_of
from leavebook.terms import END, NEED, START, WHO


def terms_of(stand, leave):
    """The terms of a leave of the stand."""
    return row_of(stand, LEAVES, leave)[TERMS]


def parents_of(stand, leave):
    """The parents of the leave; none where it doesn't stand."""
    row = row_of(stand, LEAVES, leave)
    return () if row is None else row[PARENTS]


def stands_now(stand, leave):
    """True where the leave was given and hasn't ended."""
    # What ends loses its last parent, and nothing else does.
    return len(parents_of(stand, leave)) > 0


def is_open(stand, leave):
    """True where the leave stands and now is within its turns."""
    if not stands_now(stand, leave):
        return False
    terms = terms_of(stand, leave)
    return terms[START] <= stand[NOW] and (terms[END] is None or stand[NOW] < terms[END])


def may_hand_on(stand, signers, thing, parent):
    """True where the signers may hand on leaves of the thing by the parent."""
    if parent == OWNER:
        return list(signers) == [owner_of(stand, thing)]
    if not stands_now(stand, parent):
        return False
    terms = terms_of(stand, parent)
    meant = hands_of(stand, terms[WHO])
    return len(signers) >= terms[NEED] and all(hand in meant for hand in signers)
