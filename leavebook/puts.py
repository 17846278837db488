"""Entries put to a stand."""

from leavebook.askings import put_by_asking
from leavebook.basics import refuse_where
from leavebook.entries import is_entry
from leavebook.handings import BY_LEAVE, put_by_leave
from leavebook.house import BY_HOUSE, put_by_house
from leavebook.stands import first_stand


def put_to(stand, entry):
    """The stand behind the entry, which may be whatever thing, or Refused."""
    refuse_where(not is_entry(entry), "form")
    if entry[0] in BY_HOUSE:
        return put_by_house(stand, entry)
    if entry[0] in BY_LEAVE:
        return put_by_leave(stand, entry)
    return put_by_asking(stand, entry)


def all_put_to(stand, entries):
    """The stand behind the entries, put one behind the other, or Refused."""
    for entry in entries:
        stand = put_to(stand, entry)
    return stand


def stand_behind(entries):
    """The stand behind the entries, put one behind the other to the first stand, or Refused."""
    return all_put_to(first_stand(), entries)
