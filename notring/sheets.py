"""A sheet: facts that are numbers, and rows that say when a fact holds."""

from notring.bits import is_below, is_whole
from notring.conds import made_cond
from notring.errors import NoSheet

MOST_FACTS = 120
MOST_ROWS = 400
MOST_CONDS = 6
MOST_LISTED = 6
HIGHEST_NUMBER = 6


class Sheet:
    """So many facts, and rows (head, conds); refuses with NoSheet."""

    def __init__(self, many, rows):
        if not is_below(many, MOST_FACTS + 1) or not isinstance(rows, list) or len(rows) > MOST_ROWS:
            raise NoSheet(None)
        for number, row in enumerate(rows):
            if not is_row(row, many):
                raise NoSheet(number)
        self.many = many
        self.heads = tuple([row[0] for row in rows])
        self.conds = tuple([tuple([made_cond(told) for told in row[1]]) for row in rows])
        self.headed = rows_by_head(many, self.heads)
        self.leanings = [row_leanings(conds) for conds in self.conds]
        self.helped = rows_by_help(many, self.leanings)

    def how_many(self):
        return self.many

    def row_list(self):
        return [(head, tuple([cond.shown() for cond in conds])) for head, conds in zip(self.heads, self.conds)]

    def row_count(self):
        return len(self.heads)

    def rows_for(self, fact):
        return list(self.headed[fact])

    def rows_helped(self, fact):
        """The rows, rising, with a cond that leans on the fact without a lack."""
        return list(self.helped[fact])

    def head_of(self, row):
        return self.heads[row]

    def conds_of(self, row):
        return list(self.conds[row])

    def leaned(self, fact):
        found = {}
        for row in self.headed[fact]:
            for leaning in self.leanings[row]:
                found[leaning] = True
        return sorted(found)


def row_leanings(conds):
    """All that the conds lean on, in their order."""
    found = []
    for cond in conds:
        found.extend(cond.leaning())
    return found


def rows_by_head(many, heads):
    """For each fact a list of the numbers of its rows, rising."""
    found = [[] for fact in range(many)]
    for row, head in enumerate(heads):
        found[head].append(row)
    return found


def rows_by_help(many, leanings):
    """For each fact a list of the rows, rising, that lean on it without a lack."""
    found = [{} for fact in range(many)]
    for row, row_leaned in enumerate(leanings):
        for fact, lack in row_leaned:
            if not lack:
                found[fact][row] = True
    return [list(rows) for rows in found]


# What is asked below may be anything: each part of it is looked at only when its kind is known.


def is_row(thing, many):
    """Whether the thing is a row of a sheet of so many facts."""
    if not isinstance(thing, tuple) or len(thing) != 2 or not is_below(thing[0], many):
        return False
    conds = thing[1]
    if not isinstance(conds, list) or len(conds) > MOST_CONDS:
        return False
    return all([is_cond(cond, many) for cond in conds])


def is_cond(thing, many):
    """Whether the thing tells a cond of a sheet of so many facts."""
    if not isinstance(thing, tuple) or len(thing) < 2:
        return False
    if thing[0] == "have" or thing[0] == "lack":
        return len(thing) == 2 and is_below(thing[1], many)
    if len(thing) != 3:
        return False
    if thing[0] == "some":
        return is_number(thing[1]) and is_listing(thing[2], many)
    return thing[0] == "lead" and is_listing(thing[1], many) and is_below(thing[2], len(thing[1]))


def is_number(thing):
    """Whether the thing is a number that a some may ask for."""
    return is_whole(thing) and thing >= 1 and thing <= HIGHEST_NUMBER


def is_listing(thing, many):
    """Whether the thing is a tuple of one to six facts, no two alike."""
    if not isinstance(thing, tuple) or len(thing) < 1 or len(thing) > MOST_LISTED:
        return False
    return all([is_below(fact, many) for fact in thing]) and len(set(thing)) == len(thing)
