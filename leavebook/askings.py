"""What hands do with askings: ask, sign, unsign, drop, do."""

from leavebook.basics import refuse_where
from leavebook.checker import lets_by
from leavebook.hands import hands_of
from leavebook.house import refuse_unknown_hand, refuse_unknown_thing
from leavebook.leaves import stands_now, terms_of
from leavebook.stands import AMOUNT, ASKINGS, LEAVES, SIGNS, open_asking, row_of, with_row, with_rows
from leavebook.terms import WHO


def put_ask(stand, entry):
    """An asking is open then."""
    word, asking, hand, deed, thing, case, amount = entry
    refuse_where(row_of(stand, ASKINGS, asking) is not None, "there")
    refuse_unknown_hand(stand, hand)
    refuse_unknown_thing(stand, thing)
    return with_row(stand, ASKINGS, (asking, hand, deed, thing, case, amount, (), "open", ()))


def refuse_unless_open(stand, asking):
    """Refuses where no asking of this name is open."""
    refuse_where(open_asking(stand, asking) is None, "asking")


def with_asking(stand, asking, signs, state, signers):
    """The stand with these signs, state and signers of the asking."""
    told = row_of(stand, ASKINGS, asking)[:SIGNS]
    return with_row(stand, ASKINGS, (*told, tuple(sorted(signs)), state, tuple(sorted(signers))))


def signs_of(stand, asking):
    """The signs of an asking."""
    return row_of(stand, ASKINGS, asking)[SIGNS]


def put_sign(stand, entry):
    """A hand signs an asking by a leave."""
    word, hand, asking, leave = entry
    refuse_unless_open(stand, asking)
    refuse_where(not stands_now(stand, leave), "leave")
    refuse_where(hand not in hands_of(stand, terms_of(stand, leave)[WHO]), "few")
    signs = signs_of(stand, asking)
    refuse_where((hand, leave) in signs, "there")
    return with_asking(stand, asking, [*signs, (hand, leave)], "open", ())


def put_unsign(stand, entry):
    """A hand takes back its sign."""
    word, hand, asking, leave = entry
    refuse_unless_open(stand, asking)
    signs = signs_of(stand, asking)
    refuse_where((hand, leave) not in signs, "lacks")
    return with_asking(stand, asking, [sign for sign in signs if sign != (hand, leave)], "open", ())


def put_drop(stand, entry):
    """The hand that asked drops the asking."""
    word, hand, asking = entry
    refuse_unless_open(stand, asking)
    refuse_where(row_of(stand, ASKINGS, asking)[1] != hand, "owner")
    return with_asking(stand, asking, signs_of(stand, asking), "dropped", ())


def parts_of(paper):
    """The list of the parts of a paper."""
    if paper[0] == "part":
        return [paper]
    parts = []
    for at, inner in paper[1]:
        parts.extend(parts_of(inner))
    return parts


def with_uses(stand, used, amount):
    """The stand with each of these leaves used once more, for the amount."""
    rows = []
    for leave, terms, parents, times, spent in stand[LEAVES]:
        if leave in used:
            times += 1
            spent += amount
        rows.append((leave, terms, parents, times, spent))
    return with_rows(stand, LEAVES, rows)


def put_do(stand, entry):
    """The asking is done by the paper."""
    word, asking, paper = entry
    refuse_unless_open(stand, asking)
    refuse_where(not lets_by(stand, asking, paper), "paper")
    used = {}
    signers = {}
    for part, leave, chain, hands in parts_of(paper):
        used.update({link: True for link in chain})
        signers.update({hand: True for hand in hands})
    done = with_asking(stand, asking, signs_of(stand, asking), "done", list(signers))
    return with_uses(done, used, row_of(stand, ASKINGS, asking)[AMOUNT])


# Of each first word, what is done.
BY_ASKING = {"ask": put_ask, "sign": put_sign, "unsign": put_unsign, "drop": put_drop, "do": put_do}


def put_by_asking(stand, entry):
    """The stand behind an ask, sign, unsign, drop or do, or Refused."""
    action = BY_ASKING[entry[0]]
    return action(stand, entry)
