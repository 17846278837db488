"""The promises said a second time, as plainly as can be, to compare the program with: slow, and with state."""

import copy
import itertools


class Word(Exception):
    """An entry is refused; the word is its one argument."""


def need(truth, word):
    if not truth:
        raise Word(word)


def at_most(one, other):
    """None is greater than any number."""
    return other is None or (one is not None and one <= other)


class Plain:
    """A book of what the house and hands did, with sets and dicts."""

    def __init__(self):
        self.now = 0
        self.hands, self.groups, self.aparts = set(), set(), set()
        self.seats, self.things, self.rules = {}, {}, {}
        self.leaves, self.askings = {}, {}

    def stand(self):
        """All of it as a stand."""
        return (
            self.now, tuple(sorted(self.hands)), tuple(sorted(self.groups)),
            tuple((office, *self.seats[office]) for office in sorted(self.seats)),
            tuple(sorted(self.things.items())),
            tuple((*key, self.rules[key]) for key in sorted(self.rules)),
            tuple(sorted(self.aparts)),
            tuple((name, row["terms"], tuple(sorted(row["parents"])), row["times"], row["sum"]) for name, row in sorted(self.leaves.items())),
            tuple(
                (name, *row["asked"], tuple(sorted(row["signs"])), row["state"], tuple(sorted(row["signers"])))
                for name, row in sorted(self.askings.items())
            ),
        )

    # What is asked of it.

    def standing(self, name):
        return name in self.leaves and bool(self.leaves[name]["parents"])

    def opened(self, name):
        if not self.standing(name):
            return False
        start, end = self.leaves[name]["terms"][6:8]
        return start <= self.now and (end is None or end > self.now)

    def meant(self, who):
        found = set()
        for word, name in who:
            if word == "hand":
                found.add(name)
            elif word == "group":
                found |= {hand for group, hand in self.groups if group == name}
            elif name in self.seats and self.now < self.seats[name][1]:
                found.add(self.seats[name][0])
        return found & self.hands

    def may(self, signers, thing, parent):
        if parent == "":
            return thing in self.things and set(signers) == {self.things[thing]}
        terms = self.leaves[parent]["terms"]
        return set(signers) <= self.meant(terms[2]) and len(set(signers)) >= terms[3]

    def narrow(self, one, two):
        deeds = set(one[1]) <= set(two[1])
        bounds = all(at_most(one[at], two[at]) for at in (4, 5, 7))
        return one[0] == two[0] and deeds and bounds and one[6] >= two[6] and one[8] < two[8]

    def usable(self, name, amount):
        row = self.leaves[name]
        most, total = row["terms"][4:6]
        room = (most is None or row["times"] + 1 <= most) and (total is None or row["sum"] + amount <= total)
        return self.opened(name) and room

    def free(self, hand, deed, thing, case):
        for row in self.askings.values():
            asker, done, where, which, amount = row["asked"]
            if row["state"] == "done" and hand in row["signers"] and (where, which) == (thing, case) and done != deed:
                if any(there == thing and {deed, done} <= set(deeds) for there, deeds in self.aparts):
                    return False
        return True

    def chains(self, name):
        """All chains, found by trying each order of leaves that could be one."""
        found, growing = [], [(name,)] if self.standing(name) else []
        while growing:
            chain = growing.pop()
            above = self.leaves[chain[-1]]["parents"]
            if "" in above:
                found.append(chain)
            growing.extend(chain + (parent,) for parent in above - {""})
        return sorted(found)

    # Papers and lacks.

    def rule(self, asking):
        asker, deed, thing, case, amount = self.askings[asking]["asked"]
        return self.rules.get((thing, deed), ("any",))

    def atoms(self, rule):
        return [rule] if rule[0] != "some" else [atom for inner in rule[2] for atom in self.atoms(inner)]

    def for_atom(self, asking, atom):
        """The names of the leaves, ended ones too, with the atom's thing and deed."""
        asker, deed, thing, case, amount = self.askings[asking]["asked"]
        if atom[0] == "with":
            deed, thing = atom[1:]
        return sorted(name for name, row in self.leaves.items() if row["terms"][0] == thing and deed in row["terms"][1])

    def signing(self, asking, atom, name):
        asker, deed, thing, case, amount = self.askings[asking]["asked"]
        hands = self.meant(self.leaves[name]["terms"][2])
        hands &= self.meant(atom[1]) if atom[0] == "of" else self.hands
        hands &= {hand for hand, leave in self.askings[asking]["signs"] if leave == name}
        return tuple(sorted(hand for hand in hands if self.free(hand, deed, thing, case)))

    def parts(self, asking, atom):
        """All parts that are right for the atom."""
        amount, found = self.askings[asking]["asked"][4], []
        for name in self.for_atom(asking, atom):
            hands = self.signing(asking, atom, name)
            for chain in self.chains(name):
                if all(self.usable(link, amount) for link in chain):
                    for size in range(self.leaves[name]["terms"][3], min(len(hands), 8) + 1):
                        found.extend(("part", name, chain, signers) for signers in itertools.combinations(hands, size))
        return found

    def can(self, asking, rule):
        """Whether there is a paper for the rule."""
        if rule[0] != "some":
            return bool(self.parts(asking, rule))
        return sum(self.can(asking, inner) for inner in rule[2]) >= rule[1]

    def lets(self, asking, paper):
        if asking not in self.askings or self.askings[asking]["state"] != "open":
            return False
        return self.lets_rule(asking, self.rule(asking), paper)

    def lets_rule(self, asking, rule, paper):
        if rule[0] != "some":
            return paper in self.parts(asking, rule)
        if paper[0] != "some":
            return False
        numbers = [number for number, inner in paper[1]]
        if len(numbers) != rule[1] or numbers != sorted(set(numbers)) or not set(numbers) <= set(range(len(rule[2]))):
            return False
        return all(self.lets_rule(asking, rule[2][number], inner) for number, inner in paper[1])

    def holds(self, rule, filled):
        """Whether the rule holds; filled the truths of its atoms, an iterator."""
        if rule[0] != "some":
            return next(filled)
        return sum([self.holds(inner, filled) for inner in rule[2]]) >= rule[1]

    def is_lack(self, asking, lack):
        if asking not in self.askings or self.askings[asking]["state"] != "open":
            return False
        rule = self.rule(asking)
        atoms = self.atoms(rule)
        numbers = [number for number, shows in lack]
        if numbers != sorted(set(numbers)) or not set(numbers) <= set(range(len(atoms))):
            return False
        if self.holds(rule, iter([number not in numbers for number in range(len(atoms))])):
            return False
        return all(
            [show[0] for show in shows] == self.for_atom(asking, atoms[number])
            and all(self.is_show(asking, atoms[number], *show) for show in shows) for number, shows in lack
        )

    def is_show(self, asking, atom, name, word, told):
        if word != "few":
            return self.is_cut_or_ended(self.askings[asking]["asked"][4], name, word, told)
        return self.standing(name) and told == self.signing(asking, atom, name) and len(told) < self.leaves[name]["terms"][3]

    def is_cut_or_ended(self, amount, name, word, told):
        if word == "ended":
            return not self.standing(name) and told == ()
        if word != "barred" or not self.standing(name) or list(told) != sorted(set(told)):
            return False
        cut = all(self.standing(link) and not self.usable(link, amount) for link in told)
        return cut and all(set(chain) & set(told) for chain in self.chains(name))

    # Looked ahead.

    def for_deed(self, deed, thing):
        """The names of the leaves, ended ones too, for the deed on the thing."""
        return sorted(name for name, row in self.leaves.items() if row["terms"][0] == thing and deed in row["terms"][1])

    def is_never(self, some, deed, thing, case, amount, rows):
        if thing not in self.things:
            return rows == []
        rule = self.rules.get((thing, deed), ("any",))
        atoms = self.atoms(rule)
        numbers = [number for number, shows in rows]
        if numbers != sorted(set(numbers)) or not set(numbers) <= set(range(len(atoms))):
            return False
        if self.holds(rule, iter([number not in numbers for number in range(len(atoms))])):
            return False
        for number, shows in rows:
            what, where = atoms[number][1:] if atoms[number][0] == "with" else (deed, thing)
            if [show[0] for show in shows] != self.for_deed(what, where):
                return False
            fit = {hand for hand in some if self.free(hand, deed, thing, case)}
            if atoms[number][0] == "of":
                fit &= self.meant(atoms[number][1])
            if fit and self.things.get(where) in some:
                return False
            if not all(self.is_never_show(some, fit, amount, *show) for show in shows):
                return False
        return True

    def is_never_show(self, some, fit, amount, name, word, told):
        if word != "few":
            return self.is_cut_or_ended(amount, name, word, told)
        if not self.standing(name):
            return False
        terms = self.leaves[name]["terms"]
        able = self.meant(terms[2]) & set(some)
        if told != (tuple(sorted(able & fit)), tuple(sorted(able))):
            return False
        return len(able & fit) < terms[3] and (len(able) < terms[3] or terms[8] == 0 or not fit)

    def handings(self, some, new):
        """All that some can do with leaves right now; of gives, of new as their name, one of each parent to each hand."""
        moves = []
        for thing, owner in self.things.items():
            deeds = sorted({deed for row in self.leaves.values() for deed in row["terms"][1]} | {"pay"})[:6]
            moves += [("give", new, (owner,), "", (thing, tuple(deeds), (("hand", hand),), 1, None, None, 0, None, 5)) for hand in some]
        for name, row in self.leaves.items():
            terms, able = row["terms"], tuple(sorted(self.meant(row["terms"][2]) & set(some)))
            wholes = [(terms[0], terms[1], (("hand", hand),), 1, *terms[4:8], terms[8] - 1) for hand in some if terms[8]]
            moves += [("give", new, able, name, whole) for whole in wholes]
            moves += [("back", able, child, name) for child in self.leaves]
            moves += [("back", (self.things[terms[0]],), name, "")]
            for parent in row["parents"]:
                above = tuple(sorted(self.meant(self.leaves[parent]["terms"][2]) & set(some))) if parent else ()
                moves += [("take", by, name, parent, how) for by in (above, (self.things[terms[0]],)) for how in ("fall", "pass")]
        return [move for move in moves if set(self.signers_of(move)) and set(self.signers_of(move)) <= set(some)]

    def signers_of(self, move):
        return move[2] if move[0] == "give" else move[1]

    def brings(self, some, deed, thing, case, amount):
        """Whether some can do it without any more handings, by an asking that all of them sign by whatever they can."""
        if not some or thing not in self.things:
            return False
        again = copy.deepcopy(self)
        again.put_ask("brings", some[0], deed, thing, case, amount)
        for hand in some:
            for name in self.leaves:
                if self.standing(name) and hand in self.meant(self.leaves[name]["terms"][2]):
                    again.put_sign(hand, "brings", name)
        return again.can("brings", again.rule("brings"))

    # What is done to it.

    def put(self, entry):
        getattr(self, "put_" + entry[0])(*entry[1:])

    def put_hand(self, hand):
        need(hand not in self.hands, "there")
        self.hands.add(hand)

    def put_join(self, group, hand):
        need(hand in self.hands, "hand")
        need((group, hand) not in self.groups, "there")
        self.groups.add((group, hand))

    def put_quit(self, group, hand):
        need(hand in self.hands, "hand")
        need((group, hand) in self.groups, "lacks")
        self.groups.remove((group, hand))

    def put_seat(self, office, hand, turns):
        need(hand in self.hands, "hand")
        need(office not in self.seats, "there")
        self.seats[office] = (hand, self.now + turns)

    def put_unseat(self, office):
        need(office in self.seats, "lacks")
        del self.seats[office]

    def put_thing(self, thing, owner):
        need(thing not in self.things, "there")
        need(owner in self.hands, "hand")
        self.things[thing] = owner

    def put_rule(self, thing, deed, rule):
        need(thing in self.things, "thing")
        self.rules.pop((thing, deed), None)
        if rule is not None:
            self.rules[thing, deed] = rule

    def put_apart(self, thing, deeds):
        need(thing in self.things, "thing")
        need((thing, deeds) not in self.aparts, "there")
        self.aparts.add((thing, deeds))

    def put_wait(self, turns):
        # Turn by turn.
        for _ in range(turns):
            self.now += 1
            for office in list(self.seats):
                if self.seats[office][1] == self.now:
                    del self.seats[office]

    def hand_on(self, signers, parent, terms):
        if parent == "":
            need(self.may(signers, terms[0], ""), "owner")
        else:
            need(self.standing(parent), "leave")
            need(self.opened(parent), "closed")
            need(self.may(signers, terms[0], parent), "few")
            need(self.narrow(terms, self.leaves[parent]["terms"]), "wider")

    def put_give(self, leave, signers, parent, terms):
        need(leave not in self.leaves, "there")
        need(terms[0] in self.things, "thing")
        self.hand_on(signers, parent, terms)
        self.leaves[leave] = {"terms": terms, "parents": {parent}, "times": 0, "sum": 0}

    def put_back(self, signers, leave, parent):
        need(self.standing(leave), "leave")
        self.hand_on(signers, parent, self.leaves[leave]["terms"])
        need(parent not in self.leaves[leave]["parents"], "there")
        self.leaves[leave]["parents"].add(parent)

    def put_take(self, signers, leave, parent, how):
        need(self.standing(leave), "leave")
        row = self.leaves[leave]
        need(parent in row["parents"], "lacks")
        thing = row["terms"][0]
        need(self.may(signers, thing, "") or self.may(signers, thing, parent), "few")
        if how == "pass":
            for child in self.leaves.values():
                if leave in child["parents"]:
                    child["parents"].add(parent)
        row["parents"].remove(parent)
        ended = [leave] if not row["parents"] else []
        while ended:
            gone = ended.pop()
            for name, child in self.leaves.items():
                if gone in child["parents"]:
                    child["parents"].remove(gone)
                    if not child["parents"]:
                        ended.append(name)

    def put_ask(self, asking, *asked):
        need(asking not in self.askings, "there")
        need(asked[0] in self.hands, "hand")
        need(asked[2] in self.things, "thing")
        self.askings[asking] = {"asked": asked, "signs": set(), "state": "open", "signers": set()}

    def need_open(self, asking):
        need(asking in self.askings and self.askings[asking]["state"] == "open", "asking")

    def put_sign(self, hand, asking, leave):
        self.need_open(asking)
        need(self.standing(leave), "leave")
        need(hand in self.meant(self.leaves[leave]["terms"][2]), "few")
        need((hand, leave) not in self.askings[asking]["signs"], "there")
        self.askings[asking]["signs"].add((hand, leave))

    def put_unsign(self, hand, asking, leave):
        self.need_open(asking)
        need((hand, leave) in self.askings[asking]["signs"], "lacks")
        self.askings[asking]["signs"].remove((hand, leave))

    def put_drop(self, hand, asking):
        self.need_open(asking)
        need(self.askings[asking]["asked"][0] == hand, "owner")
        self.askings[asking]["state"] = "dropped"

    def put_do(self, asking, paper):
        self.need_open(asking)
        need(self.lets(asking, paper), "paper")
        row, used, papers = self.askings[asking], set(), [paper]
        row["state"] = "done"
        while papers:
            told = papers.pop()
            if told[0] == "some":
                papers.extend(inner for number, inner in told[1])
            else:
                used |= set(told[2])
                row["signers"] |= set(told[3])
        for name in used:
            self.leaves[name]["times"] += 1
            self.leaves[name]["sum"] += row["asked"][4]
