"""Stands made by hand for the tests, row by row."""

from leavebook.termtexts import read_terms

PLACES = ("now", "hands", "groups", "seats", "things", "rules", "aparts", "leaves", "askings")


def stand_of(now=0, **places):
    """A stand with these rows, in whatever order, and nothing else."""
    unknown = set(places) - set(PLACES)
    assert not unknown, unknown
    return (now,) + tuple(tuple(sorted(places.get(place, ()))) for place in PLACES[1:])


def leave(name, text, parents=("",), times=0, spent=0):
    """A leave's row, its terms told as a text; parents () where it has ended."""
    return (name, read_terms(text), tuple(parents), times, spent)


def asking(name="one", hand="ann", deed="pay", thing="till", case="case", amount=0, signs=(), state="open", signers=()):
    """An asking's row."""
    return (name, hand, deed, thing, case, amount, tuple(sorted(signs)), state, tuple(signers))


def other(stand, **places):
    """The stand with other rows in these places."""
    told = dict(zip(PLACES, stand))
    told.update(places)
    return stand_of(**told)


def other_row(stand, place, name, at, thing):
    """The stand with another thing at a place of the row of this name."""
    rows = dict(zip(PLACES, stand))[place]
    assert name in [row[0] for row in rows]
    return other(stand, **{place: [row[:at] + (thing,) + row[at + 1:] if row[0] == name else row for row in rows]})
