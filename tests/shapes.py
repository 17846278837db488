"""How things are written, said a second time by patterns, to compare what is read with; nothing of the program is used."""

import re

NAME = "[a-z]{1,6}"
WHOLE = "(?:0|[1-9][0-9]*)"
TURNS = "[1-9][0-9]*"
KIND = {"+": 0, "@": 2}


def rising(things):
    return list(things) == sorted(set(things))


def is_name(text):
    return re.fullmatch(NAME, text) is not None


def is_names(text, least, most):
    names = text.split(",")
    return all(is_name(name) for name in names) and rising(names) and least <= len(names) <= most


def is_hands(text):
    return text == "-" or is_names(text, 1, 10 ** 6)


def is_who(text):
    parts = [re.fullmatch(f"([+@]?)({NAME})", part) for part in text.split(",")]
    return all(parts) and len(parts) <= 6 and rising([(KIND.get(part[1], 1), part[2]) for part in parts])


def is_terms(text):
    bounds = f"(?: most {TURNS})?(?: total {WHOLE})?(?: from ({TURNS}))?(?: to ({TURNS}))?(?: pass [1-5])?"
    found = re.fullmatch(f"([^ ]*) on {NAME} by [1-6] ([^ ]*){bounds}", text)
    if not found or not is_names(found[1], 1, 6) or not is_who(found[2]):
        return False
    return found[4] is None or int(found[4]) > int(found[3] or 0)


def pieces(text):
    """The pieces between `; ` outside of brackets, or None where the brackets don't fit."""
    found, level, start = [], 0, 0
    for at, sign in enumerate(text):
        level += {"(": 1, ")": -1}.get(sign, 0)
        if level < 0:
            return None
        if level == 0 and text[at:at + 2] == "; ":
            found.append(text[start:at])
            start = at + 2
    return found + [text[start:]] if level == 0 else None


def sizes(parts, size):
    """How many and how deep a thing with these parts is, or None where one of them is none."""
    inner = [size(part) for part in parts]
    if None in inner:
        return None
    return 1 + sum(many for many, deep in inner), 1 + max(deep for many, deep in inner)


def rule_size(text):
    """How many rules a rule's text has, and how deep it is; None of another text."""
    if text == "any" or (text.startswith("of ") and is_who(text[3:])) or re.fullmatch(f"with {NAME} {NAME}", text):
        return 1, 1
    found = re.fullmatch("(all|[1-6]) \\((.*)\\)", text)
    parts = pieces(found[2]) if found else None
    if parts is None or len(parts) > 6 or (found[1] != "all" and int(found[1]) >= len(parts)):
        return None
    return sizes(parts, rule_size)


def paper_size(text):
    """How many parts and somes a paper's text has, and how deep it is; None of another text."""
    found = re.fullmatch("([^:()]*):([^:()]*)", text)
    if found:
        chain = found[1].split(">")
        return (1, 1) if all(is_name(link) for link in chain) and len(chain) <= 6 and is_names(found[2], 1, 8) else None
    found = re.fullmatch("\\((.*)\\)", text)
    parts = pieces(found[1]) if found else None
    rows = [re.fullmatch("([0-5]) (.*)", part) for part in parts or [""]]
    if not all(rows) or not rising([row[1] for row in rows]):
        return None
    return sizes([row[2] for row in rows], paper_size)


def within(size):
    return size is not None and size[0] <= 24 and size[1] <= 5


def is_rule(text):
    return within(rule_size(text))


def is_paper(text):
    return within(paper_size(text))


def is_signers(text):
    return is_names(text, 1, 8)


def is_apart(text):
    return is_names(text, 2, 6)


def is_parents(text):
    names = ["" if name == "*" else name for name in text.split(",") if name]
    return text == "-" or (all(name == "" or is_name(name) for name in names) and rising(names) and len(names) == text.count(",") + 1)


def is_signs(text):
    pairs = [tuple(sign.split(":")) for sign in text.split(",")]
    return text == "-" or (all(len(pair) == 2 and is_name(pair[0]) and is_name(pair[1]) for pair in pairs) and rising(pairs))


ASKED = {"N": is_name, "S": is_signers, "A": is_apart, "T": is_terms, "R": is_rule, "P": is_paper, "H": is_hands, "L": is_parents, "G": is_signs}
ASKED["R-"] = lambda text: text == "-" or is_rule(text)
ASKED["N-"] = lambda text: text == "-" or is_name(text)
ASKED["W"] = lambda text: re.fullmatch(WHOLE, text) is not None
ASKED["W1"] = lambda text: re.fullmatch(TURNS, text) is not None
ASKED["how"] = lambda text: text in ("fall", "pass")
ASKED["state"] = lambda text: text in ("open", "dropped", "done")

ENTRIES = """hand N;join N N;quit N N;seat N N W1;unseat N;thing N N;rule N N R-;apart N A;wait W1;give N S N- T;back S N N-;take S N N- how
ask N N N N N W;sign N N N;unsign N N N;drop N N;do N P""".replace("\n", ";").split(";")
ROWS = "fill N;lets N P;hands N;room N;chain N;could H N N N W;fewest N N N W;clashes;stand;cut;entries".split(";")
LINES = "now W;hand N;in N N;seat N N W;thing N N;rule N N R;apart N A;leave N L W W T;asking N N N N N W state H G".split(";")
# How many words of a line, its first one counted, no other line has.
OWN = {"now": 1, "hand": 2, "in": 3, "seat": 2, "thing": 2, "rule": 3, "apart": 3, "leave": 2, "asking": 2}


def is_of(forms, text):
    """Whether the text is of one of the forms, the last word of which takes all that is left."""
    for form in forms:
        first, *kinds = form.split(" ")
        words = text.split(" ")
        if words[0] == first and len(words) > len(kinds):
            words = words[1:len(kinds)] + [" ".join(words[len(kinds):])] if kinds else words[1:]
            return len(words) == len(kinds) and all(ASKED[kind](word) for kind, word in zip(kinds, words))
    return False


def is_entry(text):
    return is_of(ENTRIES, text)


def is_row(text):
    return is_of(ENTRIES + ROWS, text)


def is_stand(text):
    lines = text.split("\n")
    if not all(is_of(LINES, line) for line in lines) or not lines[0].startswith("now "):
        return False
    firsts, marks = [form.split(" ")[0] for form in LINES], []
    for line in lines:
        words = line.split(" ")
        own = words[1:OWN[words[0]]]
        if words[0] == "apart":
            own[1] = own[1].split(",")
        marks.append((firsts.index(words[0]), own))
    return all(one < other for one, other in zip(marks, marks[1:]))
