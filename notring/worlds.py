"""Worlds: sets of facts that are the least sets against themselves, told by a tree over the open facts."""

from notring.bits import has_fact, is_below, is_whole, members
from notring.errors import TooManyOpen
from notring.least import least_among
from notring.sorting import Sorting

MOST_OPEN = 12


def tree_of(sheet, told):
    """The tree of all worlds; refuses with TooManyOpen."""
    return Grove(sheet, told).root_node()


def worlds_of(sheet, told):
    """The worlds, in the order in which the tree has them; refuses with TooManyOpen."""
    return tree_worlds(tree_of(sheet, told))


def tree_worlds(node):
    """The worlds of the node and of all below it, with ahead of without."""
    if node[0] == "broken":
        return []
    if node[0] == "world":
        return [node[1]]
    return tree_worlds(node[2]) + tree_worlds(node[3])


def in_worlds(sheet, told, fact):
    """How the fact is in the worlds, the first that has it and the first that has it not; refuses with TooManyOpen."""
    worlds = worlds_of(sheet, told)
    having = [world for world in worlds if has_fact(world, fact)]
    others = [world for world in worlds if not has_fact(world, fact)]
    if len(worlds) == 0:
        word = "no world"
    elif len(others) == 0:
        word = "all"
    elif len(having) == 0:
        word = "none"
    else:
        word = "some"
    return (word, first_or_none(having), first_or_none(others))


def first_or_none(worlds):
    """The first of the worlds, or None where there is none."""
    return worlds[0] if len(worlds) > 0 else None


def tree_holds(sheet, told, tree):
    """Whether the thing is a tree of all worlds, whichever facts it splits and breaks at; refuses with TooManyOpen."""
    return Grove(sheet, told).root_holds(tree)


class Grove:
    """The trees of a sheet and of what is told: nodes with a sure set and a may set."""

    def __init__(self, sheet, told):
        sorting = Sorting(sheet, told)
        count = len(members(sorting.open_facts()))
        if count > MOST_OPEN:
            raise TooManyOpen(count)
        self.sheet = sheet
        self.sure = sorting.true_facts()
        self.unsure = sorting.open_facts()

    def root_node(self):
        return self.told_node(self.sure, self.sure | self.unsure)

    def root_holds(self, tree):
        return self.node_holds(tree, self.sure, self.sure | self.unsure)

    def least_against(self, against):
        """The least set of what is told against a sure set or a may set of a node."""
        # All sure and may sets lie between the true facts and the true and open ones together, and so do their
        # least sets: the true facts may be taken as told, and rows of other heads than open ones bring nothing.
        return least_among(self.sheet, self.unsure, self.sure, against)

    def narrowed(self, sure, may):
        """The sure set and the may set of the node when it is narrowed, as a tuple."""
        more = sure | self.least_against(may)
        less = may & self.least_against(more)
        while (more & ~less) == 0 and (more != sure or less != may):
            sure = more
            may = less
            more = sure | self.least_against(may)
            less = may & self.least_against(more)
        return (more, less)

    def told_node(self, sure, may):
        """The node as a tuple, with all below it."""
        narrow = self.narrowed(sure, may)
        beyond = members(narrow[0] & ~narrow[1])
        between = members(narrow[1] & ~narrow[0])
        if len(beyond) > 0:
            return ("broken", beyond[0])
        if len(between) == 0:
            return ("world", narrow[0])
        bit = 1 << between[0]
        with_fact = self.told_node(narrow[0] | bit, narrow[1])
        return ("split", between[0], with_fact, self.told_node(narrow[0], narrow[1] & ~bit))

    def node_holds(self, node, sure, may):
        """Whether the thing is the node with these sets."""
        if not isinstance(node, tuple) or len(node) < 2 or not is_whole(node[1]):
            return False
        narrow = self.narrowed(sure, may)
        beyond = narrow[0] & ~narrow[1]
        if beyond != 0:
            return len(node) == 2 and node[0] == "broken" and self.is_one_of(node[1], beyond)
        if narrow[0] == narrow[1]:
            return len(node) == 2 and node[0] == "world" and node[1] == narrow[0]
        if len(node) != 4 or node[0] != "split" or not self.is_one_of(node[1], narrow[1] & ~narrow[0]):
            return False
        bit = 1 << node[1]
        return (self.node_holds(node[2], narrow[0] | bit, narrow[1])
                and self.node_holds(node[3], narrow[0], narrow[1] & ~bit))

    def is_one_of(self, number, facts):
        """Whether the whole number is a fact of the set."""
        return is_below(number, self.sheet.how_many()) and has_fact(facts, number)
