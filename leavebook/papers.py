"""Papers told for an asking."""

from leavebook.chains import first_shortest
from leavebook.checker import leaves_for, may_sign, rule_asked, usable_chains
from leavebook.leaves import terms_of
from leavebook.stands import AMOUNT, open_asking
from leavebook.terms import NEED


def part_for(stand, asked, atom):
    """A part that is right for the atom, or None."""
    for leave in leaves_for(stand, asked, atom):
        chain = first_shortest(usable_chains(stand, leave, asked[AMOUNT]))
        need = terms_of(stand, leave)[NEED]
        hands = may_sign(stand, asked, atom, leave)
        if chain is not None and len(hands) >= need:
            # No more hands than it wants: each that signs is less free later.
            return ("part", leave, chain, hands[:need])
    return None


def paper_for(stand, asked, rule):
    """A paper that is right for the rule, or None."""
    if rule[0] != "some":
        return part_for(stand, asked, rule)
    papers = []
    for at, inner in enumerate(rule[2]):
        paper = paper_for(stand, asked, inner)
        if paper is not None and len(papers) < rule[1]:
            papers.append((at, paper))
    return ("some", tuple(papers)) if len(papers) == rule[1] else None


def paper_of(stand, asking):
    """A paper that the stand lets by for an open asking, or None."""
    asked = open_asking(stand, asking)
    return None if asked is None else paper_for(stand, asked, rule_asked(stand, asked))
