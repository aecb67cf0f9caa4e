"""The conds of a sheet: when they are carried or blocked by two sets of facts, and on what they lean."""

from notring.bits import has_fact


class Cond:
    """What the four kinds of conds stand under; not made by itself."""


class Have(Cond):
    """Its fact holds."""

    def __init__(self, fact):
        self.fact = fact

    def shown(self):
        return ("have", self.fact)

    def carried(self, have, may):
        return has_fact(have, self.fact)

    def blocked(self, have, may):
        return not has_fact(may, self.fact)

    def leaning(self):
        return [(self.fact, False)]


class Lack(Cond):
    """Its fact does not hold."""

    def __init__(self, fact):
        self.fact = fact

    def shown(self):
        return ("lack", self.fact)

    def carried(self, have, may):
        return not has_fact(may, self.fact)

    def blocked(self, have, may):
        return has_fact(have, self.fact)

    def leaning(self):
        return [(self.fact, True)]


class Some(Cond):
    """At least number of its facts hold."""

    def __init__(self, number, facts):
        self.number = number
        self.facts = facts

    def shown(self):
        return ("some", self.number, self.facts)

    def carried(self, have, may):
        return count_in(self.facts, have) >= self.number

    def blocked(self, have, may):
        return count_in(self.facts, may) < self.number

    def leaning(self):
        return [(fact, False) for fact in self.facts]


class Lead(Cond):
    """The fact at its place holds, and none of those ahead of it does."""

    def __init__(self, facts, at):
        self.facts = facts
        self.at = at

    def shown(self):
        return ("lead", self.facts, self.at)

    def carried(self, have, may):
        return has_fact(have, self.facts[self.at]) and count_in(self.facts[:self.at], may) == 0

    def blocked(self, have, may):
        return not has_fact(may, self.facts[self.at]) or count_in(self.facts[:self.at], have) > 0

    def leaning(self):
        return [(fact, True) for fact in self.facts[:self.at]] + [(self.facts[self.at], False)]


def count_in(facts, found):
    """How many of the facts are in the set."""
    return len([fact for fact in facts if has_fact(found, fact)])


def made_cond(told):
    """The Cond that is shown as this tuple, which is known to be one of a cond."""
    if told[0] == "have":
        return Have(told[1])
    if told[0] == "lack":
        return Lack(told[1])
    if told[0] == "some":
        return Some(told[1], told[2])
    return Lead(told[1], told[2])


def all_carried(conds, have, may):
    """Whether each of the conds is carried."""
    for cond in conds:
        if not cond.carried(have, may):
            return False
    return True


def any_blocked(conds, have, may):
    """Whether one of the conds is blocked."""
    for cond in conds:
        if cond.blocked(have, may):
            return True
    return False
