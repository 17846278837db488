"""Entries: what the house and hands do; and the form of papers, which stand in them."""

from leavebook.basics import is_nested, is_rising, is_tuple_from_to, is_whole
from leavebook.names import is_name, is_names_from_to
from leavebook.rules import is_rule
from leavebook.terms import is_terms

MOST_CHAIN = 6
MOST_SIGNERS = 8
MOST_PAPERS = 6
MOST_APART = 6

# Of each first word, the kinds of what stands behind it, place by place.
FORMS = {
    "hand": ("name",),
    "join": ("name", "name"),
    "quit": ("name", "name"),
    "seat": ("name", "name", "turns"),
    "unseat": ("name",),
    "thing": ("name", "name"),
    "rule": ("name", "name", "rule"),
    "apart": ("name", "apart"),
    "wait": ("turns",),
    "give": ("name", "signers", "parent", "terms"),
    "back": ("signers", "name", "parent"),
    "take": ("signers", "name", "parent", "how"),
    "ask": ("name", "name", "name", "name", "name", "amount"),
    "sign": ("name", "name", "name"),
    "unsign": ("name", "name", "name"),
    "drop": ("name", "name"),
    "do": ("name", "paper"),
}


def is_signers(thing):
    """True of a rising tuple of one to eight names."""
    return is_names_from_to(thing, 1, MOST_SIGNERS)


def is_chain(thing, leave):
    """True of a tuple of one to six names, the first the leave."""
    return is_tuple_from_to(thing, 1, MOST_CHAIN) and all(is_name(name) for name in thing) and thing[0] == leave


def is_part_paper(thing):
    """True of a paper ("part", leave, chain, signers)."""
    if not is_tuple_from_to(thing, 4, 4) or thing[0] != "part":
        return False
    return is_name(thing[1]) and is_chain(thing[2], thing[1]) and is_signers(thing[3])


def is_some_paper(thing):
    """True of a tuple ("some", papers) with numbers as told, where the papers may be whatever things."""
    if not is_tuple_from_to(thing, 2, 2) or thing[0] != "some" or not is_tuple_from_to(thing[1], 1, MOST_PAPERS):
        return False
    if not all(is_tuple_from_to(row, 2, 2) and is_whole(row[0], 0) for row in thing[1]):
        return False
    numbers = [row[0] for row in thing[1]]
    return is_rising(numbers) and numbers[-1] < MOST_PAPERS


def papers_in(thing):
    """The list of what stands as papers directly in a thing, or None where it is no paper."""
    if is_part_paper(thing):
        return []
    return [row[1] for row in thing[1]] if is_some_paper(thing) else None


def is_paper(thing):
    """True of what is of a paper's form; whether a stand lets it by isn't asked."""
    return is_nested(thing, papers_in)


def is_of(kind, thing):
    """True of a thing of the kind that FORMS names."""
    if kind == "name":
        return is_name(thing)
    if kind == "parent":
        return thing == "" or is_name(thing)
    if kind == "signers":
        return is_signers(thing)
    if kind == "turns":
        return is_whole(thing, 1)
    if kind == "amount":
        return is_whole(thing, 0)
    if kind == "apart":
        return is_names_from_to(thing, 2, MOST_APART)
    if kind == "how":
        return thing in ("fall", "pass")
    if kind == "terms":
        return is_terms(thing)
    if kind == "rule":
        return thing is None or is_rule(thing)
    return is_paper(thing)


def is_entry(thing):
    """True of an entry."""
    # Asked first, as not every thing can be looked up in a dict.
    if not isinstance(thing, tuple) or not thing or not isinstance(thing[0], str) or thing[0] not in FORMS:
        return False
    kinds = FORMS[thing[0]]
    return len(thing) == len(kinds) + 1 and all(is_of(kind, there) for kind, there in zip(kinds, thing[1:]))
