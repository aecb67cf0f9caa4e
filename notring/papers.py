"""Papers: why each fact is sorted as it is, told and held against the sheet."""

from notring.bits import all_facts, has_fact, is_below, is_whole, set_of
from notring.conds import all_carried, any_blocked
from notring.least import ranked_set
from notring.sorting import Sorting

TOLD_PAPER = ("true", 0, 0, None)


def papers_of(sheet, told):
    """The papers of all facts, in their order."""
    sorting = Sorting(sheet, told)
    runs = sorting.runs()
    by_round = [ranks(sheet, told, pair[0]) for pair in runs]
    by_last = ranks(sheet, told, runs[-1][1])
    papers = []
    for fact in range(sheet.how_many()):
        answer = sorting.answer_of(fact)
        if has_fact(told, fact):
            papers.append(TOLD_PAPER)
        elif answer == "true":
            turn = sorting.true_round(fact)
            papers.append(("true", turn) + by_round[turn - 1][fact])
        elif answer == "false":
            papers.append(("false", sorting.false_round(fact)))
        else:
            papers.append(("open",) + by_last[fact])
    return papers


def ranks(sheet, told, against):
    """For each fact of the least set a tuple of its step and its row."""
    found = {}
    for fact, step, row in ranked_set(sheet, told, against):
        found[fact] = (step, row)
    return found


def papers_hold(sheet, told, papers):
    """Whether the thing is papers of the sheet that are right, by what they themselves tell."""
    if not isinstance(papers, list) or len(papers) != sheet.how_many():
        return False
    if not all([is_paper(sheet, fact, paper) for fact, paper in enumerate(papers)]):
        return False
    claims = Claims(papers)
    return all([is_right(sheet, told, claims, fact, paper) for fact, paper in enumerate(papers)])


def is_paper(sheet, fact, thing):
    """Whether the thing has one of the forms that a paper of the fact may have."""
    if not isinstance(thing, tuple) or len(thing) < 2 or not is_whole(thing[1]):
        return False
    if thing[0] == "false":
        return len(thing) == 2
    if thing[0] == "open":
        return len(thing) == 3 and is_own_row(sheet, fact, thing[2])
    if thing[0] != "true" or len(thing) != 4 or not is_whole(thing[2]):
        return False
    return thing == TOLD_PAPER or is_own_row(sheet, fact, thing[3])


def is_own_row(sheet, fact, thing):
    """Whether the thing is the number of a row whose head is the fact."""
    return is_below(thing, sheet.row_count()) and sheet.head_of(thing) == fact


def is_right(sheet, told, claims, fact, paper):
    """Whether the paper of the fact is right by what the papers claim."""
    if paper == TOLD_PAPER:
        return has_fact(told, fact)
    if paper[0] == "true":
        have = claims.true_ahead(paper[1], paper[2])
        return all_carried(sheet.conds_of(paper[3]), have, claims.not_false_by(paper[1]))
    if has_fact(told, fact):
        return False
    if paper[0] == "false":
        return false_is_right(sheet, claims, fact, paper[1])
    return open_is_right(sheet, claims, fact, paper)


def false_is_right(sheet, claims, fact, turn):
    """Whether each row of the fact is stopped by the round."""
    have = claims.true_by_rounds(turn)
    may = claims.not_false_by(turn)
    return all([any_blocked(sheet.conds_of(row), have, may) for row in sheet.rows_for(fact)])


def open_is_right(sheet, claims, fact, paper):
    """Whether no row of the fact is met, and the row of the paper may be."""
    for row in sheet.rows_for(fact):
        if all_carried(sheet.conds_of(row), claims.sure, claims.not_false):
            return False
    have = claims.sure | claims.open_ahead(paper[1])
    return all_carried(sheet.conds_of(paper[2]), have, claims.sure)


class Claims:
    """What papers, all of their right forms, tell of the facts."""

    def __init__(self, papers):
        self.everything = all_facts(len(papers))
        self.true_ones = [(fact, paper) for fact, paper in enumerate(papers) if paper[0] == "true"]
        self.false_ones = [(fact, paper) for fact, paper in enumerate(papers) if paper[0] == "false"]
        self.open_ones = [(fact, paper) for fact, paper in enumerate(papers) if paper[0] == "open"]
        self.sure = set_of([fact for fact, paper in self.true_ones])
        self.not_false = self.everything & ~set_of([fact for fact, paper in self.false_ones])

    def true_ahead(self, turn, step):
        """The true facts ahead of a round and a step."""
        # Tuples of numbers are compared by the first that differs: rounds first, then steps.
        return set_of([fact for fact, paper in self.true_ones if paper[1:3] < (turn, step)])

    def true_by_rounds(self, turn):
        """The true facts of lesser rounds."""
        return set_of([fact for fact, paper in self.true_ones if paper[1] < turn])

    def not_false_by(self, turn):
        """All facts but the false ones whose round is not greater."""
        return self.everything & ~set_of([fact for fact, paper in self.false_ones if paper[1] <= turn])

    def open_ahead(self, step):
        """The open facts of lesser steps."""
        return set_of([fact for fact, paper in self.open_ones if paper[1] < step])
