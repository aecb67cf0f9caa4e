"""Least sets: what comes step by step of told facts, where the lacks are taken at a set's word."""

from notring.bits import all_facts, has_fact, members, set_of
from notring.conds import all_carried


def least_set(sheet, told, against):
    """The least set of the told facts against the other set."""
    return least_among(sheet, all_facts(sheet.how_many()), told, against)


def ranked_set(sheet, told, against):
    """The least set as a list of tuples (fact, step, row or None), by steps and facts."""
    return ranked_among(sheet, all_facts(sheet.how_many()), told, against)


def least_among(sheet, heads, told, against):
    """The least set where the rows of these heads alone are looked at."""
    return set_of([came[0] for came in ranked_among(sheet, heads, told, against)])


def ranked_among(sheet, heads, told, against):
    """The list of ranked_set where the rows of these heads alone are looked at."""
    ranked = [(fact, 0, None) for fact in members(told)]
    left = heads & ~told
    step = 1
    come = told
    fresh = carried_heads(sheet, all_rows(sheet, left), come, against)
    while len(fresh) > 0:
        ranked.extend([(fact, step, fresh[fact]) for fact in sorted(fresh)])
        newest = set_of(fresh)
        come = come | newest
        left = left & ~newest
        step = step + 1
        fresh = carried_heads(sheet, helped_rows(sheet, fresh, left), come, against)
    return ranked


def all_rows(sheet, heads):
    """The rows of these heads, rising."""
    found = []
    for fact in members(heads):
        found.extend(sheet.rows_for(fact))
    return sorted(found)


def helped_rows(sheet, fresh, heads):
    """The rows of these heads, rising, that a fresh fact may have helped to be carried."""
    # A row that was not carried ahead of this step is carried now only by a fact that has just come.
    found = {}
    for fact in fresh:
        for row in sheet.rows_helped(fact):
            if has_fact(heads, sheet.head_of(row)):
                found[row] = True
    return sorted(found)


def carried_heads(sheet, rows, have, may):
    """For each head that has a carried one among the rows, which rise, the first such row."""
    found = {}
    for row in rows:
        head = sheet.head_of(row)
        if head not in found and all_carried(sheet.conds_of(row), have, may):
            found[head] = row
    return found
