"""The ways by which hands could fill the atoms of a rule. What they would ask for is told as an asking's row, asked.

A way is a tuple (word, leave, need, hands, fit): so many (need) of the hands "sign" by the leave, or "give" a new one
by it (by OWNER, too) to one of fit, who signs. It is there for some where so many and one of fit are among them.
"""

from leavebook.checker import fit_of, leaves_for, rule_asked, usable_chains, wanted_by
from leavebook.hands import hands_of
from leavebook.leaves import terms_of
from leavebook.rules import atoms_of
from leavebook.stands import AMOUNT, HANDS, LEAVES, OWNER, owner_of
from leavebook.terms import NEED, ON, WHO


def ways_by(stand, leave, fit):
    """The list of ways by the leave."""
    terms = terms_of(stand, leave)
    hands = hands_of(stand, terms[WHO])
    direct = [hand for hand in hands if hand in fit]
    ways = [("sign", leave, terms[NEED], direct, direct)]
    if terms[ON] > 0:
        ways.append(("give", leave, terms[NEED], hands, fit))
    return ways


def ways_for(stand, asked, atom, usable):
    """The list of ways for the atom, by the owner and by the usable ones of the leaves."""
    fit = fit_of(stand, asked, atom, stand[HANDS])
    ways = []
    for leave in leaves_for(stand, asked, atom):
        if leave in usable:
            ways.extend(ways_by(stand, leave, fit))
    deed, thing = wanted_by(asked, atom)
    ways.append(("give", OWNER, 1, [owner_of(stand, thing)], fit))
    # What is signed without a new leave goes first, so that no needless one is given.
    return sorted(ways, key=lambda way: way[0] != "sign")


def all_ways(stand, asked):
    """The list of the ways for each atom of the rule of what is asked."""
    usable = [row[0] for row in stand[LEAVES] if usable_chains(stand, row[0], asked[AMOUNT])]
    return [ways_for(stand, asked, atom, usable) for atom in atoms_of(rule_asked(stand, asked))]


def those_of(hands, some):
    """The list of those of the hands that are among some."""
    return [hand for hand in hands if hand in some]


def is_there(way, some):
    """True where the way is there for some."""
    word, leave, need, hands, fit = way
    return len(those_of(hands, some)) >= need and len(those_of(fit, some)) > 0


def ways_there(ways, some):
    """A dict of the number of each atom that some could fill to a way that is there for them."""
    there = {}
    for at, choices in enumerate(ways):
        open_ways = [way for way in choices if is_there(way, some)]
        if open_ways:
            there[at] = open_ways[0]
    return there
