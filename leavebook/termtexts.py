"""Terms as texts."""

from leavebook.basics import read_whole, whole_text
from leavebook.errors import NoText
from leavebook.terms import is_terms
from leavebook.whos import read_who, who_text

# The words that are always there: DEEDS on THING by NEED WHO.
HEAD_WORDS = 6


def terms_text(terms):
    """The terms as words with single blanks between."""
    thing, deeds, who, need, most, total, start, end, on = terms
    words = [",".join(deeds), "on", thing, "by", whole_text(need), who_text(who)]
    # Each bound with the value for which nothing is written.
    bounds = (("most", most, None), ("total", total, None), ("from", start, 0), ("to", end, None), ("pass", on, 0))
    for word, bound, untold in bounds:
        if bound != untold:
            words.extend([word, whole_text(bound)])
    return " ".join(words)


def bounds_in(words):
    """The numbers behind the words, as a dict, or NoText."""
    if len(words) & 1:
        raise NoText("a bound without a number")
    return {words[at]: read_whole(words[at + 1]) for at in range(0, len(words), 2)}


def terms_in(words):
    """The terms that the words would write; whether they are is asked later. Or NoText."""
    if len(words) < HEAD_WORDS:
        raise NoText("too few words")
    deeds, thing, need, who = words[0], words[2], words[4], words[5]
    bounds = bounds_in(words[HEAD_WORDS:])
    return (
        thing, tuple(deeds.split(",")), read_who(who), read_whole(need), bounds.get("most"), bounds.get("total"),
        bounds.get("from", 0), bounds.get("to"), bounds.get("pass", 0),
    )


def read_terms(text):
    """The terms that the text writes, or NoText."""
    if not isinstance(text, str):
        raise NoText("no text")
    terms = terms_in(text.split(" "))
    # Written again, as words that are unknown, told twice or in another order were passed over so far.
    if not is_terms(terms) or terms_text(terms) != text:
        raise NoText("no terms")
    return terms
