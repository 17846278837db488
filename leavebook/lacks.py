"""What lacks where an asking can't be done. An asking is told here as its row, asked."""

from leavebook.checker import leaves_for, may_sign, rule_asked
from leavebook.leaves import terms_of
from leavebook.rules import atoms_of
from leavebook.shows import are_shows, bar_as_rows, rows_of, shows_of
from leavebook.stands import AMOUNT, open_asking
from leavebook.terms import NEED


def few_for(stand, asked, atom, leave):
    """The rising tuple of all hands that might sign for the atom by the leave, or None where they are enough."""
    hands = may_sign(stand, asked, atom, leave)
    return hands if len(hands) < terms_of(stand, leave)[NEED] else None


def fews_for(stand, asked, atom):
    """A dict of each leave for the atom, by name, to its few."""
    return {leave: few_for(stand, asked, atom, leave) for leave in leaves_for(stand, asked, atom)}


def lack_of(stand, asking):
    """A lack that the stand lets by for an open asking, or None."""
    asked = open_asking(stand, asking)
    if asked is None:
        return None
    rule = rule_asked(stand, asked)
    return rows_of(rule, [shows_of(stand, asked[AMOUNT], fews_for(stand, asked, atom)) for atom in atoms_of(rule)])


def is_lack(stand, asking, lack):
    """True where the lack is let by for an open asking, whoever wrote it."""
    asked = open_asking(stand, asking)
    if asked is None:
        return False
    rule = rule_asked(stand, asked)
    if not bar_as_rows(rule, lack):
        return False
    atoms = atoms_of(rule)
    return all(are_shows(stand, asked[AMOUNT], fews_for(stand, asked, atoms[at]), shows) for at, shows in lack)
