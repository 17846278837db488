"""Two entries in either order."""

from leavebook.errors import Refused
from leavebook.puts import all_put_to


def stand_or_none(stand, entries):
    """The stand behind the entries, put one behind the other, or None where one of them is refused."""
    try:
        return all_put_to(stand, entries)
    except Refused:
        return None


def either_order(stand, one, other):
    """How two entries, whatever things, go together: "alike", "unlike", "first", "second" or "neither"."""
    one_ahead = stand_or_none(stand, (one, other))
    other_ahead = stand_or_none(stand, (other, one))
    if one_ahead is not None and other_ahead is not None:
        return "alike" if one_ahead == other_ahead else "unlike"
    if one_ahead is not None:
        return "first"
    return "second" if other_ahead is not None else "neither"
