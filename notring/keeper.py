"""A keeper of answers, which works no more than it must when what is told changes."""

from notring.bits import has_fact, is_below, set_of
from notring.errors import NoFact, OldFact
from notring.rings import parts_of
from notring.sorting import answer_in, to_and_fro


class Keeper:
    """The answers of all facts of a sheet, by what is told at the time."""

    def __init__(self, sheet, told=0):
        self.sheet = sheet
        self.told = told
        self.sure = 0
        self.unsure = 0
        self.parts = parts_of(sheet)
        self.bases = [part_base(sheet, part) for part in self.parts]
        for part in self.parts:
            self.work(part)

    def put(self, fact):
        if not is_below(fact, self.sheet.how_many()):
            raise NoFact(fact)
        if has_fact(self.told, fact):
            raise OldFact(fact)
        self.told = self.told | (1 << fact)
        return self.work_behind(fact)

    def drop(self, fact):
        if not is_below(fact, self.sheet.how_many()) or not has_fact(self.told, fact):
            raise NoFact(fact)
        self.told = self.told & ~(1 << fact)
        return self.work_behind(fact)

    def answer_at(self, fact):
        if not is_below(fact, self.sheet.how_many()):
            raise NoFact(fact)
        return answer_in(self.sure, self.unsure, fact)

    def told_facts(self):
        return self.told

    def true_facts(self):
        return self.sure

    def open_facts(self):
        return self.unsure

    def parts_list(self):
        return list(self.parts)

    def work_behind(self, fact):
        """Works the part of the fact and those that lean on what changes; the numbers of the parts that were worked."""
        worked = []
        changed = 0
        for number, part in enumerate(self.parts):
            if fact in part or (self.bases[number] & changed) != 0:
                changed = changed | self.work(part)
                worked.append(number)
        return worked

    def work(self, part):
        """Finds the answers of the part anew; the set of its facts whose answers are others now."""
        facts = set_of(part)
        told = self.told & facts
        sure = self.sure & ~facts
        unsure = self.unsure & ~facts
        # Facts of other parts stand as they are: true ones come into both sets, open ones into the wide one alone.
        last = to_and_fro(self.sheet, facts, sure, sure | unsure | told, sure | told)[-1]
        changed = (self.sure ^ last[1]) | (self.unsure ^ (last[0] & ~last[1]))
        self.sure = last[1]
        self.unsure = last[0] & ~last[1]
        return changed


def part_base(sheet, part):
    """The set of all facts on which the part leans straight."""
    found = 0
    for fact in part:
        found = found | set_of([leaning[0] for leaning in sheet.leaned(fact)])
    return found
