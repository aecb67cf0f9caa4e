"""The instances of a rule: the rule with a thing for each of its variables but counted ones."""

from notring.words import is_variable


def rule_variables(rule):
    """The variables of the rule, counted ones left out, in the order in which they first stand in its line."""
    standing = list(rule[0][1:])
    counted = []
    for cond in rule[1]:
        if cond[0] == "many":
            counted.append(cond[2])
        if cond[0] == "first":
            standing.append(cond[1])
        standing.extend(cond[-1][1:])
    found = {}
    for term in standing:
        if is_variable(term) and term not in counted:
            found[term] = True
    return list(found)


def how_many_bindings(things, variables):
    """In how many ways each of the variables can have a thing."""
    count = 1
    for place in range(len(variables)):
        count = count * len(things)
    return count


def all_bindings(things, variables, bound):
    """The dicts that bound becomes with a thing for each of the variables, the first of them going slowest."""
    found = [bound]
    for variable in variables:
        longer = []
        for shorter in found:
            longer.extend([with_thing(shorter, variable, thing) for thing in things])
        found = longer
    return found


def with_thing(bound, variable, thing):
    """A new dict: bound, and the thing for the variable."""
    other = dict(bound)
    other[variable] = thing
    return other


def filled(atom, bound):
    """The atom with the things that its variables have."""
    # A word and a thing are never like a variable, so they stay.
    return tuple([bound.get(word, word) for word in atom])


def cond_facts(cond, bound, things):
    """The facts of the cond, as atoms, in their order."""
    atom = cond[-1]
    if cond[0] == "aye" or cond[0] == "not":
        return [filled(atom, bound)]
    # Of a count and of a least one the variable stands straight ahead of the atom.
    return [filled(atom, with_thing(bound, cond[-2], thing)) for thing in things]


def sheet_cond(cond, bound, things, numbers):
    """The cond as a sheet has it told; numbers are those of its facts, in their order."""
    if cond[0] == "aye":
        return ("have", numbers[0])
    if cond[0] == "not":
        return ("lack", numbers[0])
    if cond[0] == "many":
        return ("some", cond[1], tuple(numbers))
    return ("lead", tuple(numbers), things.index(bound[cond[1]]))
