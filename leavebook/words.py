"""Texts of words, each of a kind, with single blanks between: how entries, lines of stands and rows are made.

The kinds are those of FORMS, and besides: "hands", perhaps none; "parents" of a leave; "state" and "signs" of an
asking; "set rule", a rule that isn't None.
"""

from leavebook.basics import is_rising, is_tuple_from_to, read_whole, whole_text
from leavebook.entries import is_of
from leavebook.errors import NoText
from leavebook.names import hands_text, is_name, is_names, read_hands
from leavebook.papertexts import paper_text, read_paper
from leavebook.ruletexts import read_rule, rule_text
from leavebook.stands import OWNER
from leavebook.termtexts import read_terms, terms_text

NONE = "-"
OWNER_AMONG = "*"
STATES = ("open", "dropped", "done")


def parents_text(parents):
    """The parents with commas between, with the owner's mark, or the mark for none."""
    return hands_text([OWNER_AMONG if parent == OWNER else parent for parent in parents])


def parents_in(word):
    """The parents that the word would write; whether they are is asked later."""
    if word == NONE:
        return ()
    return tuple([OWNER if name == OWNER_AMONG else name for name in word.split(",")])


def is_parents(thing):
    """True of a rising tuple of names of leaves, and perhaps the owner."""
    return all(parent == OWNER or is_name(parent) for parent in thing) and is_rising(thing)


def signs_text(signs):
    """The signs, each hand:leave, with commas between, or the mark for none."""
    return hands_text([f"{hand}:{leave}" for hand, leave in signs])


def signs_in(word):
    """The signs that the word would write; whether they are is asked later."""
    return () if word == NONE else tuple([tuple(sign.split(":")) for sign in word.split(",")])


def is_signs(thing):
    """True of a rising tuple of tuples (hand, leave)."""
    pairs = all(is_tuple_from_to(sign, 2, 2) and is_name(sign[0]) and is_name(sign[1]) for sign in thing)
    return pairs and is_rising(thing)


def is_of_kind(kind, thing):
    """True of a thing of the kind."""
    if kind == "hands":
        return is_names(thing)
    if kind == "parents":
        return is_parents(thing)
    if kind == "state":
        return thing in STATES
    if kind == "signs":
        return is_signs(thing)
    return is_of("rule" if kind == "set rule" else kind, thing)


def text_of(kind, thing):
    """How a thing of the kind is written."""
    if kind in ("signers", "apart", "hands"):
        return hands_text(thing)
    if kind in ("turns", "amount"):
        return whole_text(thing)
    if kind == "parents":
        return parents_text(thing)
    if kind == "signs":
        return signs_text(thing)
    if kind == "terms":
        return terms_text(thing)
    if kind == "paper":
        return paper_text(thing)
    if kind in ("rule", "set rule"):
        return NONE if thing is None else rule_text(thing)
    return NONE if kind == "parent" and thing == OWNER else thing


def thing_in(kind, word):
    """The thing of the kind that the word would write; whether it is one is asked later. Or NoText."""
    if kind in ("signers", "apart", "hands"):
        return read_hands(word)
    if kind in ("turns", "amount"):
        return read_whole(word)
    if kind == "parents":
        return parents_in(word)
    if kind == "signs":
        return signs_in(word)
    if kind == "terms":
        return read_terms(word)
    if kind == "paper":
        return read_paper(word)
    if kind == "set rule" or (kind == "rule" and word != NONE):
        return read_rule(word)
    if kind == "rule":
        return None
    return OWNER if kind == "parent" and word == NONE else word


def read_of(kind, word):
    """The thing of the kind that the word writes, or NoText."""
    thing = thing_in(kind, word)
    # Written again, as a word without signs was taken for the owner so far.
    if not is_of_kind(kind, thing) or text_of(kind, thing) != word:
        raise NoText("no word of its kind")
    return thing


def words_text(kinds, row):
    """A row, a tuple of a first word and of things of the kinds, as a text."""
    return " ".join([row[0]] + [text_of(kind, thing) for kind, thing in zip(kinds, row[1:])])


def read_words(forms, text):
    """The row that the text writes, forms a dict of first words to the kinds of what stands behind. Or NoText."""
    if not isinstance(text, str):
        raise NoText("no text")
    first, blank, rest = text.partition(" ")
    if first not in forms:
        raise NoText("another first word")
    kinds = forms[first]
    # Terms, rules and papers, which have blanks in them, are all that is left for the last kind.
    words = rest.split(" ", len(kinds) - 1) if blank else []
    if len(words) != len(kinds):
        raise NoText("too few words, or too many")
    return (first, *[read_of(kind, word) for kind, word in zip(kinds, words)])
