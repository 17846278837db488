"""What shows that leaves don't fill an atom, and rows of it for the atoms that bar a rule.

Told for it is few, of each leave: what a show with the word few has of it, or None where its hands aren't too few.
"""

from leavebook.bars import bars, trimmed
from leavebook.basics import is_rising, is_tuple_from_to, is_whole
from leavebook.chains import chains_of
from leavebook.leaves import stands_now
from leavebook.names import is_names
from leavebook.rules import atoms_of
from leavebook.uses import is_usable


def unusable_above(stand, leave, amount):
    """The rising tuple of the leaves on the leave's chains that aren't usable for the amount."""
    links = {link: True for chain in chains_of(stand, leave) for link in chain}
    return tuple(sorted([link for link in links if not is_usable(stand, link, amount)]))


def meets_each_chain(stand, leave, cut):
    """True where each chain of the leave has one of the cut."""
    return all(any(link in cut for link in chain) for chain in chains_of(stand, leave))


def is_cut(stand, leave, amount, cut):
    """True of a rising tuple of standing leaves, none usable for the amount, that no chain of the leave gets by."""
    if not is_names(cut) or not all(stands_now(stand, link) for link in cut):
        return False
    return not any(is_usable(stand, link, amount) for link in cut) and meets_each_chain(stand, leave, cut)


def show_of(stand, leave, amount, few):
    """What shows that the leave doesn't fill an atom, or None where it does."""
    if not stands_now(stand, leave):
        return (leave, "ended", ())
    if few is not None:
        return (leave, "few", few)
    cut = unusable_above(stand, leave, amount)
    return (leave, "barred", cut) if meets_each_chain(stand, leave, cut) else None


def is_show(stand, leave, amount, few, show):
    """True of what shows rightly, whoever wrote it, that the leave doesn't fill an atom."""
    if not is_tuple_from_to(show, 3, 3):
        return False
    if not stands_now(stand, leave):
        return show == (leave, "ended", ())
    if show[1] == "few":
        return few is not None and show == (leave, "few", few)
    return show[:2] == (leave, "barred") and is_cut(stand, leave, amount, show[2])


def shows_of(stand, amount, fews):
    """The list of shows of all leaves of fews, a dict of leaves to few, or None where one of them fills the atom."""
    shows = [show_of(stand, leave, amount, few) for leave, few in fews.items()]
    return None if None in shows else shows


def are_shows(stand, amount, fews, shows):
    """True of a list that shows rightly of each leave of fews, in their order, that it doesn't fill the atom."""
    if not isinstance(shows, list) or len(shows) != len(fews):
        return False
    return all(is_show(stand, leave, amount, fews[leave], show) for leave, show in zip(fews, shows))


def rows_of(rule, shown):
    """Rows (atom, shows) that bar the rule, of the shows of each of its atoms, None where it is filled; or None."""
    unfilled = [at for at, shows in enumerate(shown) if shows is not None]
    return [(at, shown[at]) for at in trimmed(rule, unfilled)] if bars(rule, unfilled) else None


def bar_as_rows(rule, rows):
    """True of a list of tuples of two, rising by their first things, which are numbers of atoms that bar the rule."""
    if not isinstance(rows, list) or not all(is_tuple_from_to(row, 2, 2) and is_whole(row[0], 0) for row in rows):
        return False
    numbers = [row[0] for row in rows]
    return is_rising(numbers) and all(at < len(atoms_of(rule)) for at in numbers) and bars(rule, numbers)
