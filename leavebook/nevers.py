"""What some hands can never bring about. What they would ask for is told here as an asking's row, asked."""

from leavebook.checker import fit_of, leaves_for, rule_asked, wanted_by
from leavebook.hands import hands_of
from leavebook.leaves import terms_of
from leavebook.rules import atoms_of
from leavebook.shows import are_shows, bar_as_rows, rows_of, shows_of
from leavebook.stands import AMOUNT, ASKED_THING, owner_of
from leavebook.terms import NEED, ON, WHO


def asked_for(deed, thing, case, amount):
    """The row of an asking that nobody asked yet."""
    return ("", "", deed, thing, case, amount, (), "open", ())


def few_for(stand, some, asked, atom, leave):
    """(direct, able) of the leave, or None where these are enough to sign, or to hand it on to one who may sign."""
    terms = terms_of(stand, leave)
    meant = hands_of(stand, terms[WHO])
    able = tuple([hand for hand in some if hand in meant])
    direct = tuple(fit_of(stand, asked, atom, able))
    hands_on = len(able) >= terms[NEED] and terms[ON] > 0 and len(fit_of(stand, asked, atom, some)) > 0
    return None if len(direct) >= terms[NEED] or hands_on else (direct, able)


def fews_for(stand, some, asked, atom):
    """A dict of each leave for the atom, by name, to its few."""
    return {leave: few_for(stand, some, asked, atom, leave) for leave in leaves_for(stand, asked, atom)}


def owner_gives(stand, some, asked, atom):
    """True where the owner of the atom's thing is one of some, and may give a leave to one of them who may sign."""
    deed, thing = wanted_by(asked, atom)
    return owner_of(stand, thing) in some and len(fit_of(stand, asked, atom, some)) > 0


def never_shows(stand, some, asked, atom):
    """The list of shows by which some never fill the atom, or None where they could."""
    if owner_gives(stand, some, asked, atom):
        return None
    return shows_of(stand, asked[AMOUNT], fews_for(stand, some, asked, atom))


def never_rows(stand, some, asked):
    """Rows by which some never do what is asked, or None where they could."""
    if owner_of(stand, asked[ASKED_THING]) is None:
        return []
    rule = rule_asked(stand, asked)
    return rows_of(rule, [never_shows(stand, some, asked, atom) for atom in atoms_of(rule)])


def never_fill(stand, some, asked, atom, shows):
    """True of shows, whoever wrote them, by which some never fill the atom."""
    if owner_gives(stand, some, asked, atom):
        return False
    return are_shows(stand, asked[AMOUNT], fews_for(stand, some, asked, atom), shows)


def is_never(stand, some, deed, thing, case, amount, rows):
    """True of rows, whoever wrote them, by which some never do the deed on the thing in the case for the amount."""
    if owner_of(stand, thing) is None:
        return rows == []
    asked = asked_for(deed, thing, case, amount)
    rule = rule_asked(stand, asked)
    if not bar_as_rows(rule, rows):
        return False
    atoms = atoms_of(rule)
    return all(never_fill(stand, some, asked, atoms[at], shows) for at, shows in rows)
