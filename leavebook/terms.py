"""Terms: what a leave leaves whom to do, and its bounds."""

from leavebook.basics import is_tuple_from_to, is_whole
from leavebook.names import is_name, is_names_from_to
from leavebook.whos import is_who

# The places of terms.
THING = 0
DEEDS = 1
WHO = 2
NEED = 3
MOST = 4
TOTAL = 5
START = 6
END = 7
ON = 8
PLACES = 9

MOST_DEEDS = 6
MOST_NEED = 6
MOST_ON = 5


def is_bound(thing, least):
    """True of None and of a whole number from least on."""
    return thing is None or is_whole(thing, least)


def is_terms(thing):
    """True of a tuple (thing, deeds, who, need, most, total, start, end, on)."""
    if not is_tuple_from_to(thing, PLACES, PLACES):
        return False
    on_what, deeds, who, need, most, total, start, end, on = thing
    if not is_name(on_what) or not is_names_from_to(deeds, 1, MOST_DEEDS) or not is_who(who):
        return False
    if not is_whole(need, 1) or need > MOST_NEED or not is_whole(on, 0) or on > MOST_ON:
        return False
    if not is_bound(most, 1) or not is_bound(total, 0):
        return False
    return is_whole(start, 0) and is_bound(end, start + 1)


def no_greater(one, other):
    """True where the one bound is no greater; None is greater than any number."""
    return other is None or (one is not None and one <= other)


def narrower(one, other):
    """True where the one terms are narrower than the other ones."""
    thing, deeds, who, need, most, total, start, end, on = one
    thing_of, deeds_of, who_of, need_of, most_of, total_of, start_of, end_of, on_of = other
    if thing != thing_of or not all(deed in deeds_of for deed in deeds):
        return False
    if not no_greater(most, most_of) or not no_greater(total, total_of):
        return False
    return no_greater(end, end_of) and start >= start_of and on < on_of
