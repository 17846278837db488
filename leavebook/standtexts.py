"""Stands as texts, line by line. A line is told as its row: a first word and the things behind it."""

from leavebook.basics import is_rising
from leavebook.errors import NoText
from leavebook.stands import ASKINGS, HANDS, LEAVES, NOW, SIGNS
from leavebook.words import read_words, words_text

# The first words of lines, by the places of a stand.
PLACES = ("now", "hand", "in", "seat", "thing", "rule", "apart", "leave", "asking")

# Of each first word, the kinds of what stands behind it.
LINES = {
    "now": ("amount",),
    "hand": ("name",),
    "in": ("name", "name"),
    "seat": ("name", "name", "amount"),
    "thing": ("name", "name"),
    "rule": ("name", "name", "set rule"),
    "apart": ("name", "apart"),
    "leave": ("name", "parents", "amount", "amount", "terms"),
    "asking": ("name", "name", "name", "name", "name", "amount", "state", "hands", "signs"),
}

# Of each first word, how many things behind it no other line of this word may have.
OWN = {"now": 0, "hand": 1, "in": 2, "seat": 1, "thing": 1, "rule": 2, "apart": 2, "leave": 1, "asking": 1}


def line_of(place, row):
    """The line for a row at a place of a stand."""
    if place == LEAVES:
        name, terms, parents, times, spent = row
        return ("leave", name, parents, times, spent, terms)
    if place == ASKINGS:
        signs, state, signers = row[SIGNS:]
        return ("asking", *row[:SIGNS], state, signers, signs)
    return (PLACES[place], row) if place in (NOW, HANDS) else (PLACES[place], *row)


def row_in(line):
    """The row of a stand that a line tells."""
    if line[0] == "leave":
        word, name, parents, times, spent, terms = line
        return (name, terms, parents, times, spent)
    if line[0] == "asking":
        state, signers, signs = line[SIGNS + 1:]
        return (*line[1:SIGNS + 1], signs, state, signers)
    return line[1] if line[0] in ("now", "hand") else line[1:]


def stand_text(stand):
    """The stand as lines."""
    lines = [line_of(NOW, stand[NOW])]
    for place in range(HANDS, len(PLACES)):
        lines.extend([line_of(place, row) for row in stand[place]])
    return "\n".join([words_text(LINES[line[0]], line) for line in lines])


def mark_of(line):
    """What lines are ordered by, and no two have alike."""
    return (PLACES.index(line[0]), line[1:OWN[line[0]] + 1])


def rows_in(lines, word):
    """The tuple of the rows that those of the lines with this first word tell."""
    return tuple([row_in(line) for line in lines if line[0] == word])


def read_stand(text):
    """The stand that the text writes, or NoText."""
    if not isinstance(text, str):
        raise NoText("no text")
    lines = [read_words(dict(LINES), line) for line in text.split("\n")]
    if lines[0][0] != "now" or not is_rising([mark_of(line) for line in lines]):
        raise NoText("no stand")
    return (row_in(lines[0]), *[rows_in(lines, word) for word in PLACES[HANDS:]])
