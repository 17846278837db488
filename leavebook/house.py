"""What the house does to a stand: hands, groups, offices, things, rules, deeds that lie apart, and turns."""

from leavebook.basics import refuse_where
from leavebook.stands import APARTS, GROUPS, HANDS, NOW, RULES, SEATS, THINGS, owner_of, row_of, with_row, with_rows


def refuse_unknown_hand(stand, hand):
    """Refuses where the hand isn't there."""
    refuse_where(hand not in stand[HANDS], "hand")


def refuse_unknown_thing(stand, thing):
    """Refuses where the thing isn't there."""
    refuse_where(owner_of(stand, thing) is None, "thing")


def put_hand(stand, entry):
    """A hand comes."""
    word, hand = entry
    refuse_where(hand in stand[HANDS], "there")
    return with_rows(stand, HANDS, [*stand[HANDS], hand])


def put_join(stand, entry):
    """A hand joins a group."""
    word, group, hand = entry
    refuse_unknown_hand(stand, hand)
    refuse_where((group, hand) in stand[GROUPS], "there")
    return with_rows(stand, GROUPS, [*stand[GROUPS], (group, hand)])


def put_quit(stand, entry):
    """A hand quits a group."""
    word, group, hand = entry
    refuse_unknown_hand(stand, hand)
    refuse_where((group, hand) not in stand[GROUPS], "lacks")
    return with_rows(stand, GROUPS, [row for row in stand[GROUPS] if row != (group, hand)])


def put_seat(stand, entry):
    """A hand holds an office for some turns."""
    word, office, hand, turns = entry
    refuse_unknown_hand(stand, hand)
    refuse_where(row_of(stand, SEATS, office) is not None, "there")
    return with_row(stand, SEATS, (office, hand, stand[NOW] + turns))


def put_unseat(stand, entry):
    """An office is held no more."""
    word, office = entry
    refuse_where(row_of(stand, SEATS, office) is None, "lacks")
    return with_rows(stand, SEATS, [row for row in stand[SEATS] if row[0] != office])


def put_thing(stand, entry):
    """A thing comes, with its owner."""
    word, thing, owner = entry
    refuse_where(owner_of(stand, thing) is not None, "there")
    refuse_unknown_hand(stand, owner)
    return with_row(stand, THINGS, (thing, owner))


def put_rule(stand, entry):
    """A deed on a thing has a rule then, or None."""
    word, thing, deed, rule = entry
    refuse_unknown_thing(stand, thing)
    rows = [row for row in stand[RULES] if row[:2] != (thing, deed)]
    if rule is not None:
        rows.append((thing, deed, rule))
    return with_rows(stand, RULES, rows)


def put_apart(stand, entry):
    """Some deeds lie apart on a thing."""
    word, thing, deeds = entry
    refuse_unknown_thing(stand, thing)
    refuse_where((thing, deeds) in stand[APARTS], "there")
    return with_rows(stand, APARTS, [*stand[APARTS], (thing, deeds)])


def put_wait(stand, entry):
    """Some turns go by, and the seats that they end are taken out."""
    word, turns = entry
    now = stand[NOW] + turns
    later = (now, *stand[1:])
    return with_rows(later, SEATS, [(office, hand, until) for office, hand, until in stand[SEATS] if now < until])


# Of each first word, what is done.
BY_HOUSE = {
    "hand": put_hand,
    "join": put_join,
    "quit": put_quit,
    "seat": put_seat,
    "unseat": put_unseat,
    "thing": put_thing,
    "rule": put_rule,
    "apart": put_apart,
    "wait": put_wait,
}


def put_by_house(stand, entry):
    """The stand behind an entry of the house, or Refused."""
    action = BY_HOUSE[entry[0]]
    return action(stand, entry)
