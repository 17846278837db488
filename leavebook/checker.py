"""Whether a paper is let by: what a rule wants, part by part. An asking is told here as its row, asked."""

from leavebook.chains import chains_of
from leavebook.entries import is_part_paper, is_some_paper
from leavebook.hands import hands_of
from leavebook.leaves import terms_of
from leavebook.stands import AMOUNT, ASKED_CASE, ASKED_DEED, ASKED_THING, LEAVES, RULES, SIGNS, TERMS, open_asking
from leavebook.terms import DEEDS, NEED, THING, WHO
from leavebook.uses import is_free, is_usable


def rule_of(stand, deed, thing):
    """The rule for the deed on the thing."""
    for where, what, rule in stand[RULES]:
        if where == thing and what == deed:
            return rule
    return ("any",)


def rule_asked(stand, asked):
    """The rule of the asking."""
    return rule_of(stand, asked[ASKED_DEED], asked[ASKED_THING])


def wanted_by(asked, atom):
    """The deed and the thing that the atom wants a leave for."""
    return atom[1:] if atom[0] == "with" else (asked[ASKED_DEED], asked[ASKED_THING])


def leaves_for(stand, asked, atom):
    """The names of all leaves, ended ones too, whose terms have the atom's thing and deed; rising."""
    deed, thing = wanted_by(asked, atom)
    return [row[0] for row in stand[LEAVES] if row[TERMS][THING] == thing and deed in row[TERMS][DEEDS]]


def fit_of(stand, asked, atom, hands):
    """The list of those of the hands that are free for what is asked and, for of, of the atom's who."""
    if atom[0] == "of":
        meant = hands_of(stand, atom[1])
        hands = [hand for hand in hands if hand in meant]
    deed, thing, case = asked[ASKED_DEED], asked[ASKED_THING], asked[ASKED_CASE]
    # Also for another thing's leave, the hand must be free for the deed that is asked for.
    return [hand for hand in hands if is_free(stand, hand, deed, thing, case)]


def may_sign(stand, asked, atom, leave):
    """The rising tuple of all hands that may sign for the atom by the leave in a paper."""
    hands = hands_of(stand, terms_of(stand, leave)[WHO])
    signed = [hand for hand in hands if (hand, leave) in asked[SIGNS]]
    return tuple(fit_of(stand, asked, atom, signed))


def usable_chains(stand, leave, amount):
    """The sorted list of the leave's chains of which each leave is usable for the amount."""
    chains = chains_of(stand, leave)
    return [chain for chain in chains if all(is_usable(stand, link, amount) for link in chain)]


def lets_part_by(stand, asked, atom, part):
    """True of a part, of the right form, that is right for the atom."""
    word, leave, chain, signers = part
    if leave not in leaves_for(stand, asked, atom) or chain not in usable_chains(stand, leave, asked[AMOUNT]):
        return False
    allowed = may_sign(stand, asked, atom, leave)
    return len(signers) >= terms_of(stand, leave)[NEED] and all(hand in allowed for hand in signers)


def lets_rule_by(stand, asked, rule, paper):
    """True of whatever thing where it is a paper for the rule that is right in each part."""
    if rule[0] != "some":
        return is_part_paper(paper) and lets_part_by(stand, asked, rule, paper)
    wanted, rules = rule[1], rule[2]
    if not is_some_paper(paper) or len(paper[1]) != wanted:
        return False
    return all(at < len(rules) and lets_rule_by(stand, asked, rules[at], inner) for at, inner in paper[1])


def lets_by(stand, asking, paper):
    """True of whatever thing where it is a paper that the stand lets by for an open asking."""
    asked = open_asking(stand, asking)
    return asked is not None and lets_rule_by(stand, asked, rule_asked(stand, asked), paper)
