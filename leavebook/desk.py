"""The desk: a book that is told rows of words and answers with texts."""

from leavebook.ahead import could
from leavebook.apart import clashes
from leavebook.basics import whole_text
from leavebook.book import Book
from leavebook.chains import chain_of
from leavebook.checker import lets_by
from leavebook.entries import FORMS
from leavebook.entrytexts import entries_text
from leavebook.errors import NoRow, NoText, Refused
from leavebook.fewest import fewest
from leavebook.hands import hands_of
from leavebook.leaves import stands_now, terms_of
from leavebook.names import hands_text
from leavebook.papertexts import paper_text
from leavebook.stands import HANDS, LEAVES, row_of
from leavebook.standtexts import read_stand, stand_text
from leavebook.terms import MOST, TOTAL, WHO
from leavebook.words import read_words

NO_LEAVE = "no leave"

# Of each first word of a row that is no entry's text, the kinds of what stands behind it.
ROWS = {
    "fill": ("name",),
    "lets": ("name", "paper"),
    "hands": ("name",),
    "room": ("name",),
    "chain": ("name",),
    "could": ("hands", "name", "name", "name", "amount"),
    "fewest": ("name", "name", "name", "amount"),
    "clashes": (),
    "stand": (),
    "cut": (),
    "entries": (),
}


def read_row(text):
    """The row that the text tells: a first word and the things behind it. Or NoRow."""
    forms = dict(FORMS)
    forms.update(dict(ROWS))
    try:
        return read_words(forms, text)
    except NoText:
        raise NoRow("no row") from None


def answer_fill(book, row):
    """An asking is filled, or its lack is told by the numbers of the atoms."""
    try:
        word, found = book.fill(row[1])
    except Refused as refusal:
        return f"no {refusal.word}"
    if word == "done":
        return f"done {paper_text(found)}"
    return " ".join(["lacks"] + [whole_text(at) for at, shows in found])


def answer_lets(book, row):
    """Whether a paper is let by."""
    word, asking, paper = row
    return "yes" if lets_by(book.stand(), asking, paper) else "no"


def answer_hands(book, row):
    """The hands of a leave's who."""
    stand = book.stand()
    if not stands_now(stand, row[1]):
        return NO_LEAVE
    return hands_text(hands_of(stand, terms_of(stand, row[1])[WHO]))


def left_text(bound, used):
    """What is left of a bound, or the mark for none."""
    return "-" if bound is None else whole_text(bound - used)


def answer_room(book, row):
    """How often a leave may be used still, and for how much together."""
    stand = book.stand()
    if not stands_now(stand, row[1]):
        return NO_LEAVE
    name, terms, parents, times, spent = row_of(stand, LEAVES, row[1])
    return f"{left_text(terms[MOST], times)} {left_text(terms[TOTAL], spent)}"


def answer_chain(book, row):
    """A chain of a leave."""
    chain = chain_of(book.stand(), row[1])
    return NO_LEAVE if chain is None else ">".join(chain)


def answer_could(book, row):
    """Whether some hands could, and by how many entries."""
    stand = book.stand()
    word, some, deed, thing, case, amount = row
    if not all(hand in stand[HANDS] for hand in some):
        return "no hand"
    told, rows = could(stand, list(some), deed, thing, case, amount)
    return f"can {whole_text(len(rows))}" if told == "can" else "never"


def answer_fewest(book, row):
    """The fewest hands that could."""
    word, deed, thing, case, amount = row
    told = fewest(book.stand(), deed, thing, case, amount)
    return "none" if told is None else " ".join(told[0])


def answer_clashes(book, row):
    """How many clashes there are."""
    return whole_text(len(clashes(book.stand())))


def answer_stand(book, row):
    """The text of the book's stand."""
    return stand_text(book.stand())


def answer_entries(book, row):
    """The text of the entries that the book did."""
    return entries_text(book.entries())


# Of each first word of a row that asks something of the book, what is answered.
ANSWERS = {
    "fill": answer_fill,
    "lets": answer_lets,
    "hands": answer_hands,
    "room": answer_room,
    "chain": answer_chain,
    "could": answer_could,
    "fewest": answer_fewest,
    "clashes": answer_clashes,
    "stand": answer_stand,
    "entries": answer_entries,
}


def answer_entry(book, entry):
    """The entry is done, or refused."""
    try:
        book.do(entry)
    except Refused as refusal:
        return f"no {refusal.word}"
    return "ok"


class Desk:
    """A desk whose book is made of a stand's text, or of the first stand."""

    def __init__(self, text=None):
        self.book = Book() if text is None else Book(read_stand(text))

    def say(self, row):
        """The answer to a row, or NoRow."""
        told = read_row(row)
        if told[0] == "cut":
            self.book = Book(read_stand(stand_text(self.book.stand())))
            return "ok"
        if told[0] in ANSWERS:
            answer = ANSWERS[told[0]]
            return answer(self.book, told)
        return answer_entry(self.book, told)
