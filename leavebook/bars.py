"""Atoms that bar a rule."""

from leavebook.rules import atoms_of, holds


def bars(rule, some):
    """True where the rule doesn't hold with all atoms but these filled."""
    others = [at for at in range(len(atoms_of(rule))) if at not in some]
    return not holds(rule, others)


def trimmed(rule, some):
    """The atoms that are left when, again and again, the least one is left out without which they bar still."""
    kept = list(some)
    # Once through is enough: an atom that can't be left out of more atoms can't be left out of fewer.
    for atom in some:
        fewer = [at for at in kept if at != atom]
        if bars(rule, fewer):
            kept = fewer
    return kept
