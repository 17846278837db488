"""Books: a stand that goes on, and the entries that were done."""

from leavebook.basics import refuse_where
from leavebook.lacks import lack_of
from leavebook.papers import paper_of
from leavebook.puts import put_to
from leavebook.stands import first_stand, open_asking


class Book:
    """A book made of a stand, or of the first one."""

    def __init__(self, stand=None):
        self.reached = first_stand() if stand is None else stand
        self.done = []

    def do(self, entry):
        """Does the entry, which may be whatever thing, or Refused."""
        self.reached = put_to(self.reached, entry)
        self.done.append(entry)

    def fill(self, asking):
        """Does an open asking and tells ("done", paper), or tells ("lacks", lack); or Refused."""
        refuse_where(open_asking(self.reached, asking) is None, "asking")
        paper = paper_of(self.reached, asking)
        if paper is None:
            return ("lacks", lack_of(self.reached, asking))
        self.do(("do", asking, paper))
        return ("done", paper)

    def stand(self):
        """The stand behind all entries that were done."""
        return self.reached

    def entries(self):
        """The list of all entries that were done."""
        return list(self.done)

    def twin(self):
        """Another book with the same stand and entries, which goes on by itself."""
        other = Book(self.reached)
        other.done = list(self.done)
        return other
