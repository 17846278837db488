"""Papers as texts."""

from leavebook.basics import MOST_DEEP, read_whole, whole_text
from leavebook.entries import is_paper
from leavebook.errors import NoText
from leavebook.ruletexts import pieces_of


def paper_text(paper):
    """The paper as a text."""
    if paper[0] == "part":
        return ">".join(paper[2]) + ":" + ",".join(paper[3])
    inner = "; ".join([f"{whole_text(at)} {paper_text(part)}" for at, part in paper[1]])
    return f"({inner})"


def numbered_in(text, deep):
    """The tuple (i, paper), the paper at most so deep, that the text would write. Or NoText."""
    number, blank, rest = text.partition(" ")
    return (read_whole(number), paper_in(rest, deep))


def paper_in(text, deep):
    """The paper, at most so deep, that the text would write; whether it is one is asked later. Or NoText."""
    if deep == 0:
        raise NoText("too deep")
    if text.startswith("("):
        return ("some", tuple([numbered_in(piece, deep - 1) for piece in pieces_of(text[1:-1])]))
    links, colon, signers = text.partition(":")
    chain = tuple(links.split(">"))
    return ("part", chain[0], chain, tuple(signers.split(",")))


def read_paper(text):
    """The paper that the text writes, or NoText."""
    if not isinstance(text, str):
        raise NoText("no text")
    paper = paper_in(text, MOST_DEEP)
    # Written again, as the closing bracket and blanks were passed over so far.
    if not is_paper(paper) or paper_text(paper) != text:
        raise NoText("no paper")
    return paper
