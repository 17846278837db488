"""Rules as texts."""

from leavebook.basics import MOST_DEEP, read_whole, whole_text
from leavebook.errors import NoText
from leavebook.rules import is_rule
from leavebook.whos import read_who, who_text


def rule_text(rule):
    """The rule as a text."""
    if rule[0] == "any":
        return "any"
    if rule[0] == "of":
        return f"of {who_text(rule[1])}"
    if rule[0] == "with":
        return f"with {rule[1]} {rule[2]}"
    wanted, rules = rule[1], rule[2]
    many = "all" if wanted == len(rules) else whole_text(wanted)
    inner = "; ".join([rule_text(part) for part in rules])
    return f"{many} ({inner})"


def pieces_of(text):
    """The pieces of a text between `; `, but for those within brackets."""
    pieces = []
    start = deep = 0
    for at, sign in enumerate(text):
        if sign == "(":
            deep += 1
        elif sign == ")":
            deep -= 1
        elif deep == 0 and text[at:at + 2] == "; ":
            pieces.append(text[start:at])
            start = at + 2
    pieces.append(text[start:])
    return pieces


def rule_in(text, deep):
    """The rule, at most so deep, that the text would write; whether it is one is asked later. Or NoText."""
    if deep == 0:
        raise NoText("too deep")
    if text == "any":
        return ("any",)
    word, blank, rest = text.partition(" ")
    if word == "of":
        return ("of", read_who(rest))
    if word == "with":
        deed, blank, thing = rest.partition(" ")
        return ("with", deed, thing)
    rules = tuple([rule_in(piece, deep - 1) for piece in pieces_of(rest[1:-1])])
    wanted = len(rules) if word == "all" else read_whole(word)
    return ("some", wanted, rules)


def read_rule(text):
    """The rule that the text writes, or NoText."""
    if not isinstance(text, str):
        raise NoText("no text")
    rule = rule_in(text, MOST_DEEP)
    # Written again, as brackets and blanks were passed over so far, and figures taken for `all`.
    if not is_rule(rule) or rule_text(rule) != text:
        raise NoText("no rule")
    return rule
