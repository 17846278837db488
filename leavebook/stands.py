"""Stands: all that a book knows at one turn."""

# The places of a stand.
NOW = 0
HANDS = 1
GROUPS = 2
SEATS = 3
THINGS = 4
RULES = 5
APARTS = 6
LEAVES = 7
ASKINGS = 8

# The places of a leave's row.
TERMS = 1
PARENTS = 2

# What stands for the owner among a leave's parents.
OWNER = ""

# The places of an asking's row.
ASKED_DEED = 2
ASKED_THING = 3
ASKED_CASE = 4
AMOUNT = 5
SIGNS = 6
STATE = 7
SIGNERS = 8


def first_stand():
    """The stand with now 0 and nothing else."""
    return (0, (), (), (), (), (), (), (), ())


def row_of(stand, place, name):
    """The row of this name in a place whose rows have their names first, each its own; None where there is none."""
    for row in stand[place]:
        if row[0] == name:
            return row
    return None


def with_rows(stand, place, rows):
    """The stand with these rows, in whatever order, as all that a place has."""
    return stand[:place] + (tuple(sorted(rows)),) + stand[place + 1:]


def with_row(stand, place, row):
    """The stand with this row, in the stead of the one of its name where there is one."""
    others = [other for other in stand[place] if other[0] != row[0]]
    return with_rows(stand, place, [*others, row])


def owner_of(stand, thing):
    """The owner of the thing, or None where the thing isn't there."""
    row = row_of(stand, THINGS, thing)
    return None if row is None else row[1]


def open_asking(stand, asking):
    """The row of the asking, or None where none of this name is open."""
    row = row_of(stand, ASKINGS, asking)
    return row if row is not None and row[STATE] == "open" else None
