"""Chains of leaves back to the owner, and what a take leaves of them."""

from leavebook.leaves import parents_of
from leavebook.stands import LEAVES, OWNER, PARENTS


def chains_of(stand, leave):
    """The sorted list of the leave's chains; none where it doesn't stand."""
    parents = parents_of(stand, leave)
    chains = [(leave,)] if OWNER in parents else []
    # The owner is no leave, so there are no chains of it.
    for parent in parents:
        chains.extend([(leave, *chain) for chain in chains_of(stand, parent)])
    return sorted(chains)


def first_shortest(chains):
    """The first, as tuples compare, of the shortest of some chains, or None where there are none."""
    return min(chains, key=lambda chain: (len(chain), chain)) if chains else None


def chain_of(stand, leave):
    """The first of the leave's shortest chains, or None where it doesn't stand."""
    return first_shortest(chains_of(stand, leave))


def all_parents(stand):
    """A dict of each leave of the stand to its parents, by name."""
    return {row[0]: row[PARENTS] for row in stand[LEAVES]}


def without_ended(parents):
    """The dict of parents when no leave without parents is a parent any more."""
    kept = {}
    for leave, had in parents.items():
        kept[leave] = tuple([parent for parent in had if parent == OWNER or parents[parent]])
    return kept if kept == parents else without_ended(kept)


def passed_on(parents, leave, parent):
    """The dict of parents when each leave that has this leave as a parent has the parent besides."""
    passed = {}
    for name, had in parents.items():
        gets = leave in had and parent not in had
        passed[name] = tuple(sorted([*had, parent])) if gets else had
    return passed


def parents_behind_take(stand, leave, parent, how):
    """The dict of parents of all leaves behind a take, fall or pass, of the leave from the parent."""
    parents = all_parents(stand)
    if how == "pass":
        parents = passed_on(parents, leave, parent)
    parents[leave] = tuple([other for other in parents[leave] if other != parent])
    return without_ended(parents)


def hanging_on(stand, leave, parent):
    """The rising list of the leaves that a take with fall of the leave from the parent would end."""
    before = all_parents(stand)
    if leave not in before:
        return []
    behind = parents_behind_take(stand, leave, parent, "fall")
    return [name for name in before if before[name] and not behind[name]]
