"""Rules: which atoms must be filled for a deed."""

from leavebook.basics import is_nested, is_tuple_from_to, is_whole
from leavebook.names import is_name
from leavebook.whos import is_who

MOST_RULES = 6


def is_atom(thing):
    """True of a rule without rules in it."""
    if not is_tuple_from_to(thing, 1, 3):
        return False
    if len(thing) == 1:
        return thing[0] == "any"
    if len(thing) == 2:
        return thing[0] == "of" and is_who(thing[1])
    return thing[0] == "with" and is_name(thing[1]) and is_name(thing[2])


def is_some_rule(thing):
    """True of a tuple ("some", k, rules), where rules may be a tuple of whatever things."""
    if not is_tuple_from_to(thing, 3, 3) or thing[0] != "some" or not is_tuple_from_to(thing[2], 1, MOST_RULES):
        return False
    return is_whole(thing[1], 1) and thing[1] <= len(thing[2])


def rules_in(thing):
    """The list of what stands as rules directly in a thing, or None where it is no rule."""
    if is_atom(thing):
        return []
    return list(thing[2]) if is_some_rule(thing) else None


def is_rule(thing):
    """True of a rule."""
    return is_nested(thing, rules_in)


def atoms_of(rule):
    """The list of the rule's atoms, from the left."""
    if rule[0] != "some":
        return [rule]
    atoms = []
    for part in rule[2]:
        atoms.extend(atoms_of(part))
    return atoms


def holds_by(rule, truths):
    """Whether the rule holds; the truths of its atoms are taken off the head of the list."""
    if rule[0] != "some":
        return truths.pop(0)
    held = 0
    for part in rule[2]:
        if holds_by(part, truths):
            held += 1
    return held >= rule[1]


def holds(rule, filled):
    """True where the rule holds with the atoms of these numbers filled."""
    return holds_by(rule, [at in filled for at in range(len(atoms_of(rule)))])
