"""Hands that signed deeds which lie apart."""

from leavebook.stands import ASKED_CASE, ASKED_DEED, ASKED_THING, ASKINGS, SIGNERS
from leavebook.uses import lie_apart


def clashes_of(stand, one, other):
    """The list of the clashes of two askings, told as their rows, the one's deed ahead of the other's."""
    thing, case, deed, later = one[ASKED_THING], one[ASKED_CASE], one[ASKED_DEED], other[ASKED_DEED]
    if thing != other[ASKED_THING] or case != other[ASKED_CASE] or not deed < later:
        return []
    if not lie_apart(stand, thing, deed, later):
        return []
    # Only a done asking has signers.
    return [(thing, case, hand, deed, later) for hand in one[SIGNERS] if hand in other[SIGNERS]]


def clashes(stand):
    """The rising list of (thing, case, hand, deed, other), two deeds that lie apart and were signed by one hand."""
    found = {}
    for one in stand[ASKINGS]:
        for other in stand[ASKINGS]:
            found.update({clash: True for clash in clashes_of(stand, one, other)})
    return sorted(found)
