"""The fewest hands that could do a deed, and how soon some could."""

from leavebook.ahead import row_by
from leavebook.checker import rule_asked
from leavebook.nevers import asked_for
from leavebook.puts import put_to
from leavebook.rules import holds
from leavebook.stands import HANDS
from leavebook.ways import all_ways, ways_there


def lists_of(hands, many):
    """The sorted list of all rising lists of so many of the hands, which rise."""
    if many == 0:
        return [[]]
    lists = []
    for at, hand in enumerate(hands):
        lists.extend([[hand, *others] for others in lists_of(hands[at + 1:], many - 1)])
    return lists


def fewest(stand, deed, thing, case, amount):
    """(some, row), some the first list of the fewest hands that could do it, row how; or None where all couldn't."""
    asked = asked_for(deed, thing, case, amount)
    ways = all_ways(stand, asked)
    for many in range(1, len(stand[HANDS]) + 1):
        for some in lists_of(stand[HANDS], many):
            row = row_by(stand, some, asked, ways)
            if row is not None:
                return (some, row)
    return None


def could_behind(stand, turns, some, asked):
    """True where some could do what is asked behind a wait of so many turns."""
    later = stand if turns == 0 else put_to(stand, ("wait", turns))
    return holds(rule_asked(later, asked), list(ways_there(all_ways(later, asked), some)))


def soonest(stand, some, deed, thing, case, amount, bound):
    """The least number of turns, from 0 to the bound, behind which some could do it, or None."""
    asked = asked_for(deed, thing, case, amount)
    for turns in range(bound + 1):
        if could_behind(stand, turns, some, asked):
            return turns
    return None
