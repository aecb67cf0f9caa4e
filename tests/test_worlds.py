"""Points 71 to 77: worlds, the tree that tells them, and trees that are handed in."""

import unittest

import reference
from notring.errors import TooManyOpen
from notring.least import least_set
from notring.sheets import Sheet
from notring.sorting import Sorting
from notring.worlds import in_worlds, tree_holds, tree_of, worlds_of
from samples import NO_TEXTS, deep, random_cases

RING = [(0, [("lack", 1)]), (1, [("lack", 0)])]
RING_TREE = ("split", 0, ("world", 0b01), ("world", 0b10))
# What 0 needs comes for the lack of 0 alone: the branch with 0 breaks.
HALF = [(0, [("lack", 1), ("have", 2)]), (1, [("lack", 0)]), (2, [("lack", 0), ("lack", 1)])]
HALF_TREE = ("split", 0, ("broken", 0), ("world", 0b010))
# 0 comes where 1 does, 1 where 0 does not: without 0 both come, and then neither may.
BOTH = [(0, [("have", 1)]), (1, [("lack", 0)])]
BOTH_TREE = ("split", 0, ("broken", 0), ("broken", 0))


def pairs(many):
    """As many rings of two facts that lack one another."""
    return [(fact, [("lack", fact ^ 1)]) for fact in range(2 * many)]


class Worlds(unittest.TestCase):
    def test_no_facts(self):
        self.assertEqual(tree_of(Sheet(0, []), 0), ("world", 0))
        self.assertEqual(worlds_of(Sheet(0, []), 0), [0])

    def test_nothing_open(self):
        sheet = Sheet(3, [(0, []), (1, [("lack", 0)]), (2, [("lack", 1)])])
        self.assertEqual(tree_of(sheet, 0), ("world", 0b101))
        self.assertEqual(worlds_of(sheet, 0), [0b101])
        self.assertEqual(worlds_of(sheet, 0b010), [0b011])

    def test_no_world(self):
        sheet = Sheet(1, [(0, [("lack", 0)])])
        self.assertEqual(tree_of(sheet, 0), ("split", 0, ("broken", 0), ("broken", 0)))
        self.assertEqual(worlds_of(sheet, 0), [])
        self.assertEqual(in_worlds(sheet, 0, 0), ("no world", None, None))

    def test_with_goes_ahead_of_without(self):
        self.assertEqual(tree_of(Sheet(2, RING), 0), RING_TREE)
        self.assertEqual(worlds_of(Sheet(2, RING), 0), [0b01, 0b10])

    def test_a_broken_branch(self):
        self.assertEqual(tree_of(Sheet(3, HALF), 0), HALF_TREE)
        self.assertEqual(worlds_of(Sheet(3, HALF), 0), [0b010])

    def test_the_least_fact_is_told_of_a_broken_node(self):
        self.assertEqual(tree_of(Sheet(2, BOTH), 0), BOTH_TREE)

    def test_a_node_that_is_broken_is_narrowed_no_further(self):
        # In the last branch but one a further turn would bring 0, which is less, to what is broken.
        rows = [(1, [("lack", 1)]), (0, [("lack", 1)])]
        self.assertEqual(tree_of(Sheet(2, rows), 0), (
            "split", 0, ("split", 1, ("broken", 0), ("broken", 0)), ("split", 1, ("broken", 1), ("broken", 0))))
        self.assertIs(tree_holds(Sheet(2, rows), 0, (
            "split", 0, ("split", 1, ("broken", 0), ("broken", 0)), ("split", 1, ("broken", 0), ("broken", 0)))), False)

    def test_trees_as_the_reference_has_them(self):
        for _, many, rows, told in random_cases(73, 200, 6):
            self.assertEqual(tree_of(Sheet(many, rows), told), reference.tree(rows, reference.facts_in(told)),
                             (rows, told))

    def test_splits_below_splits(self):
        self.assertEqual(tree_of(Sheet(4, pairs(2)), 0), (
            "split", 0, ("split", 2, ("world", 0b0101), ("world", 0b1001)),
            ("split", 2, ("world", 0b0110), ("world", 0b1010))))
        self.assertEqual(worlds_of(Sheet(4, pairs(2)), 0), [0b0101, 0b1001, 0b0110, 0b1010])

    def test_a_ring_of_three_lacks(self):
        rows = [(fact, [("lack", (fact + 1) % 3)]) for fact in range(3)]
        self.assertEqual(worlds_of(Sheet(3, rows), 0), [])
        self.assertEqual(worlds_of(Sheet(3, rows), 0b001), [0b011])

    def test_as_all_sets_have_them(self):
        seen = set()
        for _, many, rows, told in random_cases(71, 300, 6):
            sheet = Sheet(many, rows)
            worlds = worlds_of(sheet, told)
            self.assertEqual(sorted(worlds), reference.worlds(rows, many, reference.facts_in(told)), (rows, told))
            sorting = Sorting(sheet, told)
            for world in worlds:
                self.assertEqual(least_set(sheet, told, world), world)
                self.assertEqual((sorting.true_facts() & ~world, sorting.false_facts() & world), (0, 0))
                self.assertEqual([other for other in worlds if other != world and other & world == world], [])
            seen.add(min(len(worlds), 3))
        self.assertEqual(seen, {0, 1, 2, 3})

    def test_open_facts_beside_many_others(self):
        rows = [(fact + 100, [("lack", (fact ^ 1) + 100), ("have", 99)]) for fact in range(6)]
        rows += [(fact + 1, [("have", fact)]) for fact in range(99)] + [(106, [("have", 106)])]
        sheet = Sheet(120, rows)
        self.assertEqual(worlds_of(sheet, 0), [0])
        worlds = worlds_of(sheet, 1)
        self.assertEqual(worlds[0], ((1 << 100) - 1) | (0b010101 << 100))
        self.assertEqual((len(worlds), worlds[-1] >> 100), (8, 0b101010))

    def test_how_a_fact_is_in_the_worlds(self):
        # 2 in both worlds though it is open, 3 in none, 4 in none though it is open.
        rows = RING + [(2, [("have", 0)]), (2, [("have", 1)]), (4, [("have", 0), ("have", 1)]), (5, [])]
        sheet = Sheet(6, rows)
        self.assertEqual(worlds_of(sheet, 0), [0b100101, 0b100110])
        self.assertEqual(in_worlds(sheet, 0, 0), ("some", 0b100101, 0b100110))
        self.assertEqual(in_worlds(sheet, 0, 1), ("some", 0b100110, 0b100101))
        self.assertEqual(in_worlds(sheet, 0, 2), ("all", 0b100101, None))
        self.assertEqual(in_worlds(sheet, 0, 3), ("none", None, 0b100101))
        self.assertEqual(in_worlds(sheet, 0, 4), ("none", None, 0b100101))
        self.assertEqual(in_worlds(sheet, 0, 5), ("all", 0b100101, None))

    def test_where_there_is_no_world_a_true_fact_is_in_none_too(self):
        sheet = Sheet(3, [(0, [("lack", 0)]), (1, [])])
        for fact in range(3):
            self.assertEqual(in_worlds(sheet, 0, fact), ("no world", None, None))

    def test_the_first_world_in_the_order_of_the_list(self):
        for _, many, rows, told in random_cases(75, 200, 6):
            sheet = Sheet(many, rows)
            worlds = worlds_of(sheet, told)
            for fact in range(many):
                has = [world for world in worlds if world >> fact & 1]
                lacks = [world for world in worlds if not world >> fact & 1]
                word = "no world" if not worlds else "all" if not lacks else "none" if not has else "some"
                self.assertEqual(in_worlds(sheet, told, fact), (word, (has + [None])[0], (lacks + [None])[0]))

    def test_the_list_is_the_askers_own(self):
        sheet = Sheet(2, RING)
        worlds_of(sheet, 0).clear()
        self.assertEqual(worlds_of(sheet, 0), [0b01, 0b10])
        self.assertEqual(tree_of(sheet, 0), tree_of(Sheet(2, RING), 0))


class Holding(unittest.TestCase):
    def hold(self, many, rows, tree, holds, told=0):
        self.assertIs(tree_holds(Sheet(many, rows), told, tree), holds, repr(tree))

    def test_the_trees_that_are_told(self):
        for _, many, rows, told in random_cases(76, 200, 6):
            sheet = Sheet(many, rows)
            self.assertIs(tree_holds(sheet, told, tree_of(sheet, told)), True)

    def test_another_fact_at_a_split(self):
        self.hold(2, RING, RING_TREE, True)
        self.hold(2, RING, ("split", 1, ("world", 0b10), ("world", 0b01)), True)
        self.hold(2, RING, ("split", 1, ("world", 0b01), ("world", 0b10)), False)
        self.hold(3, HALF, HALF_TREE, True)
        self.hold(3, HALF, ("split", 1, ("world", 0b010), ("split", 0, ("broken", 0), ("broken", 2))), True)
        self.hold(3, HALF, ("split", 1, ("world", 0b010), ("broken", 0)), False)

    def test_facts_that_can_not_be_split_at(self):
        rows = RING + [(2, []), (3, [("have", 3)])]
        self.hold(4, rows, ("split", 0, ("world", 0b0101), ("world", 0b0110)), True)
        for fact in [2, 3, 4, 5, 120, -1, -4, 10 ** 99, -(10 ** 99)]:
            self.hold(4, rows, ("split", fact, ("world", 0b0101), ("world", 0b0110)), False)
        # A split at a sure fact, or at one that may not be, would leave the node as it is on one side.
        tree = tree_of(Sheet(4, rows), 0)
        self.hold(4, rows, ("split", 2, tree, ("broken", 2)), False)
        self.hold(4, rows, ("split", 3, ("broken", 3), tree), False)

    def test_another_fact_at_a_broken_node(self):
        self.hold(2, BOTH, BOTH_TREE, True)
        self.hold(2, BOTH, ("split", 0, ("broken", 0), ("broken", 1)), True)
        self.hold(2, BOTH, ("split", 0, ("broken", 1), ("broken", 0)), False)
        for fact in [2, 3, -1, -2, 10 ** 99, -(10 ** 99)]:
            self.hold(2, BOTH, ("split", 0, ("broken", 0), ("broken", fact)), False)
            self.hold(2, BOTH, ("split", 0, ("broken", fact), ("broken", 0)), False)

    def test_what_is_no_tree(self):
        for thing in NO_TEXTS + ["", "world", "split", (), ("world",), ("broken",), ("split",), ("split", 0),
                                 deep(RING_TREE, 15)]:
            self.hold(2, RING, thing, False)
            self.hold(0, [], thing, False)
            self.hold(2, RING, ("split", 0, thing, ("world", 0b10)), False)
            self.hold(2, RING, ("split", 0, ("world", 0b01), thing), False)
            self.hold(2, RING, ("split", thing, ("world", 0b01), ("world", 0b10)), thing.__class__ is int
                      and thing == 0)
            self.hold(2, RING, ("split", 0, ("world", thing), ("world", 0b10)), thing.__class__ is int and thing == 1)
            self.hold(2, RING, (thing, 0, ("world", 0b01), ("world", 0b10)), thing == "split")

    def test_a_truth_for_a_number(self):
        self.hold(2, RING, ("split", False, ("world", 0b01), ("world", 0b10)), False)
        self.hold(2, RING, ("split", 0, ("world", True), ("world", 0b10)), False)
        self.hold(2, RING, ("split", True, ("world", 0b10), ("world", 0b01)), False)
        self.hold(1, [(0, [("lack", 0)])], ("split", 0, ("broken", False), ("broken", 0)), False)
        self.hold(1, [(0, [("lack", 0)])], ("split", 0, ("broken", 0), ("broken", False)), False)
        self.hold(1, [], ("world", False), False)
        self.hold(1, [(0, [])], ("world", True), False)

    def test_a_list_for_a_tuple(self):
        self.hold(2, RING, list(RING_TREE), False)
        self.hold(2, RING, ("split", 0, ["world", 0b01], ("world", 0b10)), False)
        self.hold(2, RING, ("split", 0, ("world", 0b01), ["world", 0b10]), False)
        self.hold(0, [], ["world", 0], False)

    def test_a_part_more_or_less(self):
        self.hold(0, [], ("world", 0, 0), False)
        self.hold(0, [], ("world", 0, None), False)
        self.hold(2, RING, RING_TREE + (("world", 0b10),), False)
        self.hold(2, RING, RING_TREE + (None,), False)
        self.hold(2, RING, RING_TREE[:3], False)
        self.hold(2, RING, ("split", 0, ("world", 0b01, 0), ("world", 0b10)), False)
        self.hold(3, HALF, ("split", 0, ("broken", 0, 0), ("world", 0b010)), False)
        self.hold(3, HALF, ("split", 0, ("broken",), ("world", 0b010)), False)

    def test_another_word_or_world(self):
        self.hold(2, RING, ("Split", 0, ("world", 0b01), ("world", 0b10)), False)
        self.hold(2, RING, ("split", 0, ("world", 0b11), ("world", 0b10)), False)
        self.hold(2, RING, ("split", 0, ("world", 0b01), ("broken", 0)), False)
        self.hold(2, RING, ("split", 0, ("broken", 1), ("world", 0b10)), False)
        self.hold(2, RING, ("world", 0b01), False)
        self.hold(2, RING, ("broken", 0), False)
        self.hold(3, HALF, ("split", 0, ("world", 0b001), ("world", 0b010)), False)
        self.hold(1, [], ("broken", 0), False)
        self.hold(1, [], ("world", 0b1), False)
        self.hold(1, [], ("world", -1), False)

    def test_a_branch_cut_off_or_put_for_the_other(self):
        self.hold(2, RING, ("split", 0, ("world", 0b10), ("world", 0b01)), False)
        self.hold(2, RING, ("split", 0, ("world", 0b01), ("world", 0b01)), False)
        tree = tree_of(Sheet(4, pairs(2)), 0)
        self.hold(4, pairs(2), tree, True)
        self.hold(4, pairs(2), tree[2], False)
        self.hold(4, pairs(2), tree[:2] + (tree[3], tree[2]), False)
        self.hold(4, pairs(2), tree[:2] + (tree[2], tree[2]), False)
        self.hold(4, pairs(2), tree[:2] + (("world", 0b0101), tree[3]), False)
        self.hold(4, pairs(2), tree[:2] + (tree[2], ("split", 2, ("world", 0b0110), ("broken", 3))), False)
        self.hold(4, pairs(2), ("split", 2, ("split", 0, ("world", 0b0101), ("world", 0b0110)),
                                ("split", 1, ("world", 0b1010), ("world", 0b1001))), True)

    def test_a_split_where_all_is_narrowed_already(self):
        self.hold(2, RING, ("split", 0, ("split", 1, ("world", 0b11), ("world", 0b01)), ("world", 0b10)), False)

    def test_random_trees_that_hold_tell_all_worlds(self):
        """Trees that split at any fact and break at any fact, made as 72 tells."""
        for chance, many, rows, told in random_cases(77, 200, 6):
            facts = reference.facts_in(told)

            def node(sure, may):
                sure, may = reference.narrow(rows, facts, sure, may)
                if sure - may:
                    return ("broken", chance.choice(sorted(sure - may)))
                if sure == may:
                    worlds.append(reference.bits_of(sure))
                    return ("world", reference.bits_of(sure))
                fact = chance.choice(sorted(may - sure))
                return ("split", fact, node(sure | {fact}, may), node(sure, may - {fact}))

            worlds = []
            upper, lower = reference.runs(rows, facts)[-1]
            tree = node(lower, upper)
            sheet = Sheet(many, rows)
            self.assertIs(tree_holds(sheet, told, tree), True)
            self.assertEqual(sorted(worlds), sorted(worlds_of(sheet, told)))
            self.assertIs(tree_holds(sheet, told, self.spoiled(chance, tree, many)), False)

    def spoiled(self, chance, node, many):
        """The tree with one node of another word, or of a number beyond the facts."""
        if node[0] == "split" and chance.random() < 0.7:
            place = chance.choice([2, 3])
            return node[:place] + (self.spoiled(chance, node[place], many),) + node[place + 1:]
        return chance.choice([node[:1] + (1 << many,) + node[2:], node[:1] + (-1 - node[1],) + node[2:], ("", )
                              + node[1:],
                              node + (0,), node[:-1], list(node), (node,)])

    def test_what_is_handed_in_is_not_changed(self):
        thing = ("split", 0, ["world", {"a": [1]}], [("world", 0b10)])
        self.hold(2, RING, thing, False)
        self.assertEqual(thing, ("split", 0, ["world", {"a": [1]}], [("world", 0b10)]))


class TooMany(unittest.TestCase):
    def test_twelve_open_facts(self):
        sheet = Sheet(12, pairs(6))
        worlds = worlds_of(sheet, 0)
        self.assertEqual((len(worlds), len(set(worlds))), (64, 64))
        self.assertEqual((worlds[0], worlds[-1]), (0b010101010101, 0b101010101010))
        self.assertIs(tree_holds(sheet, 0, tree_of(sheet, 0)), True)
        self.assertEqual(in_worlds(sheet, 0, 11)[0], "some")

    def test_twelve_open_facts_without_a_world(self):
        sheet = Sheet(12, [(fact, [("lack", fact)]) for fact in range(12)])
        self.assertEqual(worlds_of(sheet, 0), [])
        self.assertEqual(in_worlds(sheet, 0, 0), ("no world", None, None))

    def refuse(self, sheet, told, count):
        asks = [lambda: tree_of(sheet, told), lambda: worlds_of(sheet, told), lambda: in_worlds(sheet, told, 0)]
        asks += [lambda tree=tree: tree_holds(sheet, told, tree) for tree in [("world", 0), None, "", [], ("split", 0),
                                                                              7, deep(0, 20)]]
        for ask in asks:
            with self.assertRaises(TooManyOpen) as caught:
                ask()
            self.assertIs(caught.exception.__class__, TooManyOpen)
            self.assertEqual(caught.exception.count, count)

    def test_thirteen_open_facts(self):
        self.refuse(Sheet(13, pairs(6) + [(12, [("lack", 12)])]), 0, 13)

    def test_many_open_facts(self):
        self.refuse(Sheet(120, pairs(60)), 0, 120)
        self.refuse(Sheet(120, pairs(60)), 0b11, 118)

    def test_it_is_open_facts_that_are_counted(self):
        sheet = Sheet(120, pairs(6) + [(fact, []) for fact in range(12, 60)])
        self.assertEqual(len(worlds_of(sheet, 0)), 64)
        sheet = Sheet(14, pairs(7))
        self.refuse(sheet, 0, 14)
        self.assertEqual(len(worlds_of(sheet, 0b01)), 64)


if __name__ == "__main__":
    unittest.main()
