"""What some hands alone could bring about. What they would ask for is told as an asking's row, asked."""

from leavebook.checker import rule_asked, wanted_by
from leavebook.leaves import terms_of
from leavebook.names import fresh_name
from leavebook.nevers import asked_for, never_rows
from leavebook.papers import paper_of
from leavebook.puts import all_put_to
from leavebook.rules import atoms_of, holds
from leavebook.stands import AMOUNT, ASKED_DEED, ASKINGS, LEAVES, OWNER
from leavebook.terms import END, MOST, START, TOTAL
from leavebook.ways import all_ways, those_of, ways_there


def terms_for(stand, parent, deed, thing, hand):
    """The widest terms, to be handed on no more, that the parent can give the hand for the deed on the thing."""
    most = total = end = None
    start = 0
    if parent != OWNER:
        above = terms_of(stand, parent)
        most, total, start, end = above[MOST], above[TOTAL], above[START], above[END]
    return (thing, (deed,), (("hand", hand),), 1, most, total, start, end, 0)


def given_before(row, parent, terms):
    """The name of a leave that the row gives by the parent with these terms, or None."""
    for entry in row:
        if entry[0] == "give" and entry[3:] == (parent, terms):
            return entry[1]
    return None


def with_new_leave(stand, row, signers, parent, terms):
    """The name of a leave by the parent with these terms, and the row with its give."""
    name = given_before(row, parent, terms)
    if name is not None:
        return name, row
    taken = [leave[0] for leave in stand[LEAVES]] + [entry[1] for entry in row if entry[0] == "give"]
    name = fresh_name(taken)
    return name, [*row, ("give", name, signers, parent, terms)]


def with_signs(row, hands, asking, leave):
    """The row with the signs of the hands by the leave that it doesn't have yet."""
    signs = [("sign", hand, asking, leave) for hand in hands]
    return row + [sign for sign in signs if sign not in row]


def with_way(stand, row, asked, atom, way, some):
    """The row with what some do to fill the atom by the way; its first entry is their ask."""
    word, leave, need, hands, fit = way
    signers = those_of(hands, some)[:need]
    if word == "give":
        deed, thing = wanted_by(asked, atom)
        hand = those_of(fit, some)[0]
        leave, row = with_new_leave(stand, row, tuple(signers), leave, terms_for(stand, leave, deed, thing, hand))
        signers = [hand]
    return with_signs(row, signers, row[0][1], leave)


def needed(rule, filled):
    """Those of the filled atoms, by which the rule holds, that are left when each one is left out that can be."""
    kept = list(filled)
    for at in filled:
        fewer = [other for other in kept if other != at]
        if holds(rule, fewer):
            kept = fewer
    return kept


def row_by(stand, some, asked, ways):
    """The row of entries by which some do what is asked, all ways to it told; or None where they couldn't."""
    rule = rule_asked(stand, asked)
    there = ways_there(ways, some)
    if not holds(rule, list(there)):
        return None
    asking = fresh_name([row[0] for row in stand[ASKINGS]])
    row = [("ask", asking, some[0], *asked[ASKED_DEED:AMOUNT + 1])]
    atoms = atoms_of(rule)
    for at in needed(rule, list(there)):
        row = with_way(stand, row, asked, atoms[at], there[at], some)
    return [*row, ("do", asking, paper_of(all_put_to(stand, row), asking))]


def could(stand, some, deed, thing, case, amount):
    """("can", row), row a list of entries by which some do it, or ("never", rows), rows by which they never do."""
    asked = asked_for(deed, thing, case, amount)
    row = row_by(stand, some, asked, all_ways(stand, asked))
    if row is not None:
        return ("can", row)
    return ("never", never_rows(stand, some, asked))
