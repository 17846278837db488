"""What hands do with leaves: give, back, take."""

from leavebook.basics import refuse_where
from leavebook.chains import parents_behind_take
from leavebook.house import refuse_unknown_thing
from leavebook.leaves import is_open, may_hand_on, parents_of, stands_now, terms_of
from leavebook.stands import LEAVES, OWNER, row_of, with_row, with_rows
from leavebook.terms import THING, narrower


def refuse_handing(stand, signers, parent, terms):
    """Refuses where the signers can't hand on terms by the parent."""
    if parent == OWNER:
        refuse_where(not may_hand_on(stand, signers, terms[THING], parent), "owner")
        return
    refuse_where(not stands_now(stand, parent), "leave")
    refuse_where(not is_open(stand, parent), "closed")
    refuse_where(not may_hand_on(stand, signers, terms[THING], parent), "few")
    refuse_where(not narrower(terms, terms_of(stand, parent)), "wider")


def put_give(stand, entry):
    """A leave is given by a parent."""
    word, leave, signers, parent, terms = entry
    refuse_where(row_of(stand, LEAVES, leave) is not None, "there")
    refuse_unknown_thing(stand, terms[THING])
    refuse_handing(stand, signers, parent, terms)
    return with_row(stand, LEAVES, (leave, terms, (parent,), 0, 0))


def with_parents(stand, parents):
    """The stand with the parents of its leaves as the dict tells them."""
    rows = [(leave, terms, parents[leave], times, spent) for leave, terms, had, times, spent in stand[LEAVES]]
    return with_rows(stand, LEAVES, rows)


def put_back(stand, entry):
    """A leave gets one more parent."""
    word, signers, leave, parent = entry
    refuse_where(not stands_now(stand, leave), "leave")
    name, terms, parents, times, spent = row_of(stand, LEAVES, leave)
    refuse_handing(stand, signers, parent, terms)
    refuse_where(parent in parents, "there")
    return with_row(stand, LEAVES, (leave, terms, tuple(sorted([*parents, parent])), times, spent))


def put_take(stand, entry):
    """A leave loses a parent, and what no chain leads to the owner then ends."""
    word, signers, leave, parent, how = entry
    refuse_where(not stands_now(stand, leave), "leave")
    refuse_where(parent not in parents_of(stand, leave), "lacks")
    thing = terms_of(stand, leave)[THING]
    by_owner = may_hand_on(stand, signers, thing, OWNER)
    refuse_where(not by_owner and not may_hand_on(stand, signers, thing, parent), "few")
    return with_parents(stand, parents_behind_take(stand, leave, parent, how))


# Of each first word, what is done.
BY_LEAVE = {"give": put_give, "back": put_back, "take": put_take}


def put_by_leave(stand, entry):
    """The stand behind a give, back or take, or Refused."""
    action = BY_LEAVE[entry[0]]
    return action(stand, entry)
