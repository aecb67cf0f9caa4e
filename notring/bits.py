"""Whole numbers, and sets of facts, which are whole numbers with a bit for each fact."""


def is_whole(thing):
    """Whether the thing is a whole number, which a truth is not."""
    return isinstance(thing, int) and not isinstance(thing, bool)


def is_below(thing, many):
    """Whether the thing is a whole number from 0 on that is less than many."""
    return is_whole(thing) and thing >= 0 and thing < many


def has_fact(facts, fact):
    """Whether the fact is in the set."""
    return ((facts >> fact) & 1) == 1


def set_of(facts):
    """The set of the facts that a list, a tuple or a dict holds."""
    found = 0
    for fact in facts:
        found = found | (1 << fact)
    return found


def members(facts):
    """The facts of the set, rising."""
    return [fact for fact in range(facts.bit_length()) if has_fact(facts, fact)]


def all_facts(many):
    """The set of all facts of a sheet that has so many."""
    return (1 << many) - 1
