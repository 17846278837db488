"""What lacks where an asking can't be done. An asking is told here as its row, asked."""

from leavebook.bars import bars, trimmed
from leavebook.basics import is_rising, is_tuple_from_to, is_whole
from leavebook.chains import chains_of
from leavebook.checker import leaves_for, may_sign, rule_asked
from leavebook.leaves import stands_now, terms_of
from leavebook.names import is_names
from leavebook.rules import atoms_of
from leavebook.stands import AMOUNT, open_asking
from leavebook.terms import NEED
from leavebook.uses import is_usable


def unusable_above(stand, leave, amount):
    """The rising tuple of the leaves on the leave's chains that aren't usable for the amount."""
    links = {link: True for chain in chains_of(stand, leave) for link in chain}
    return tuple(sorted([link for link in links if not is_usable(stand, link, amount)]))


def meets_each_chain(stand, leave, cut):
    """True where each chain of the leave has one of the cut."""
    return all(any(link in cut for link in chain) for chain in chains_of(stand, leave))


def is_cut(stand, leave, amount, cut):
    """True of a rising tuple of standing leaves, none usable for the amount, that no chain of the leave gets by."""
    if not is_names(cut) or not all(stands_now(stand, link) for link in cut):
        return False
    return not any(is_usable(stand, link, amount) for link in cut) and meets_each_chain(stand, leave, cut)


def show_of(stand, asked, atom, leave):
    """What shows that the leave doesn't fill the atom, or None where it does."""
    if not stands_now(stand, leave):
        return (leave, "ended", ())
    hands = may_sign(stand, asked, atom, leave)
    if len(hands) < terms_of(stand, leave)[NEED]:
        return (leave, "few", hands)
    cut = unusable_above(stand, leave, asked[AMOUNT])
    return (leave, "barred", cut) if meets_each_chain(stand, leave, cut) else None


def is_show(stand, asked, atom, leave, show):
    """True of what shows rightly, whoever wrote it, that the leave doesn't fill the atom."""
    if not is_tuple_from_to(show, 3, 3) or show[0] != leave:
        return False
    word, told = show[1], show[2]
    if not stands_now(stand, leave):
        return word == "ended" and told == ()
    if word == "few":
        return told == may_sign(stand, asked, atom, leave) and len(told) < terms_of(stand, leave)[NEED]
    return word == "barred" and is_cut(stand, leave, asked[AMOUNT], told)


def are_shows(stand, asked, atom, shows):
    """True of a list that shows rightly of each leave for the atom, by name, that it doesn't fill it."""
    leaves = leaves_for(stand, asked, atom)
    if not isinstance(shows, list) or len(shows) != len(leaves):
        return False
    return all(is_show(stand, asked, atom, leave, show) for leave, show in zip(leaves, shows))


def lack_of(stand, asking):
    """A lack that the stand lets by for an open asking, or None."""
    asked = open_asking(stand, asking)
    if asked is None:
        return None
    rule = rule_asked(stand, asked)
    unfilled = {}
    for at, atom in enumerate(atoms_of(rule)):
        shows = [show_of(stand, asked, atom, leave) for leave in leaves_for(stand, asked, atom)]
        if None not in shows:
            unfilled[at] = shows
    if not bars(rule, list(unfilled)):
        return None
    return [(at, unfilled[at]) for at in trimmed(rule, list(unfilled))]


def are_rows(lack, many):
    """True of a list of tuples of two, rising by their first things, which are numbers of so many atoms."""
    if not isinstance(lack, list) or not all(is_tuple_from_to(row, 2, 2) and is_whole(row[0], 0) for row in lack):
        return False
    numbers = [row[0] for row in lack]
    return is_rising(numbers) and all(number < many for number in numbers)


def is_lack(stand, asking, lack):
    """True where the lack is let by for an open asking, whoever wrote it."""
    asked = open_asking(stand, asking)
    if asked is None:
        return False
    rule = rule_asked(stand, asked)
    atoms = atoms_of(rule)
    if not are_rows(lack, len(atoms)) or not bars(rule, [at for at, shows in lack]):
        return False
    return all(are_shows(stand, asked, atoms[at], shows) for at, shows in lack)
