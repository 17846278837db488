"""The hands that a who means at a stand."""

from leavebook.stands import GROUPS, HANDS, NOW, SEATS


def is_one_of(stand, hand, who):
    """True where the who means the hand by its name, by a group, or by an office that it holds now."""
    if ("hand", hand) in who:
        return True
    if any(member == hand and ("group", group) in who for group, member in stand[GROUPS]):
        return True
    held = [office for office, holder, until in stand[SEATS] if holder == hand and stand[NOW] < until]
    return any(("office", office) in who for office in held)


def hands_of(stand, who):
    """The rising list of the hands that are there and that the who means."""
    return [hand for hand in stand[HANDS] if is_one_of(stand, hand, who)]
