"""A book written out as a sheet."""

from notring.bits import set_of
from notring.errors import TooManyFacts, TooManyRows
from notring.instances import all_bindings, cond_facts, filled, how_many_bindings, rule_variables, sheet_cond
from notring.sheets import MOST_FACTS, MOST_ROWS, Sheet


def written_out(book):
    """The names of the facts, the Sheet, and the set of what is said; refuses with TooManyRows, TooManyFacts."""
    # Counted ahead: of rules with many variables the instances themselves would be too many to make.
    count = sum([how_many_bindings(book.things, rule_variables(rule)) for rule in book.rules])
    if count > MOST_ROWS:
        raise TooManyRows(count)
    instances = book_instances(book)
    names = fact_names(book, instances)
    if len(names) > MOST_FACTS:
        raise TooManyFacts(len(names))
    numbers = {}
    for number, name in enumerate(names):
        numbers[name] = number
    rows = [instance_row(instance, book.things, numbers) for instance in instances]
    told = set_of([numbers[fact_name(fact)] for fact in book.said])
    return (names, Sheet(len(names), rows), told)


def fact_name(fact):
    """The text of the fact."""
    return " ".join(fact)


def book_instances(book):
    """The instances of all rules, in their order, as tuples (rule, bound)."""
    found = []
    for rule in book.rules:
        found.extend([(rule, bound) for bound in all_bindings(book.things, rule_variables(rule), {})])
    return found


def fact_names(book, instances):
    """The texts of all facts, each once, in the order of texts."""
    found = {}
    for fact in book.said:
        found[fact_name(fact)] = True
    for rule, bound in instances:
        found[fact_name(filled(rule[0], bound))] = True
        for cond in rule[1]:
            for fact in cond_facts(cond, bound, book.things):
                found[fact_name(fact)] = True
    return sorted(found)


def instance_row(instance, things, numbers):
    """The row of the instance, facts having these numbers by their names."""
    rule = instance[0]
    bound = instance[1]
    conds = []
    for cond in rule[1]:
        facts = [numbers[fact_name(fact)] for fact in cond_facts(cond, bound, things)]
        conds.append(sheet_cond(cond, bound, things, facts))
    return (numbers[fact_name(filled(rule[0], bound))], conds)
