"""The sorting of all facts of a sheet into true, false and open ones."""

from notring.bits import all_facts, has_fact
from notring.least import least_among


class Sorting:
    """The facts of a sheet, sorted by what is told."""

    def __init__(self, sheet, told):
        facts = all_facts(sheet.how_many())
        self.pairs = to_and_fro(sheet, facts, 0, told, told)
        self.sure = self.pairs[-1][1]
        self.unsure = self.pairs[-1][0] & ~self.sure
        self.others = facts & ~self.pairs[-1][0]

    def runs(self):
        return list(self.pairs)

    def true_facts(self):
        return self.sure

    def false_facts(self):
        return self.others

    def open_facts(self):
        return self.unsure

    def answer_of(self, fact):
        return answer_in(self.sure, self.unsure, fact)

    def true_round(self, fact):
        """The first round whose second set has the fact, which is a true one."""
        return [has_fact(pair[1], fact) for pair in self.pairs].index(True) + 1

    def false_round(self, fact):
        """The first round whose first set has not the fact, which is a false one."""
        return [has_fact(pair[0], fact) for pair in self.pairs].index(False) + 1


def answer_in(sure, unsure, fact):
    """The answer of the fact by the sets of the true and of the open facts."""
    if has_fact(sure, fact):
        return "true"
    if has_fact(unsure, fact):
        return "open"
    return "false"


def to_and_fro(sheet, heads, known, wide, narrow):
    """The pairs of sets, round by round, where the rows of these heads alone are looked at.

    known is the set against which the first round begins; of wide come the first sets, of narrow the second
    ones, as of what is told. These two differ where facts that are no heads here are open.
    """
    pairs = [next_pair(sheet, heads, known, wide, narrow)]
    pair = next_pair(sheet, heads, pairs[-1][1], wide, narrow)
    while pair != pairs[-1]:
        pairs.append(pair)
        pair = next_pair(sheet, heads, pair[1], wide, narrow)
    return pairs


def next_pair(sheet, heads, known, wide, narrow):
    """The pair of the round behind the one whose second set is known."""
    first = least_among(sheet, heads, wide, known)
    return (first, least_among(sheet, heads, narrow, first))
