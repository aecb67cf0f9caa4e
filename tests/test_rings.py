"""Points 31 to 33: the parts of a sheet, and what their rings are like."""

import random
import unittest

import reference
from notring.rings import parts_of, ring_of
from notring.sheets import Sheet
from samples import random_rows


def leaning_rows(edges):
    """Rows by which each fact leans on others: edges are tuples (fact, other, lack)."""
    return [(fact, [("lack" if lack else "have", other)]) for fact, other, lack in edges]


def ring_sheet(lacks):
    """A sheet whose facts lean round in one ring, by these lacks."""
    many = len(lacks)
    return Sheet(many, leaning_rows([(fact, (fact + 1) % many, lack) for fact, lack in enumerate(lacks)]))


class Parts(unittest.TestCase):
    def parts(self, many, edges):
        return parts_of(Sheet(many, leaning_rows(edges)))

    def test_a_sheet_without_facts(self):
        self.assertEqual(parts_of(Sheet(0, [])), [])

    def test_a_sheet_without_rows(self):
        self.assertEqual(self.parts(4, []), [(0,), (1,), (2,), (3,)])

    def test_a_part_stands_behind_those_on_which_it_leans(self):
        self.assertEqual(self.parts(3, [(0, 1, False), (1, 2, True)]), [(2,), (1,), (0,)])
        self.assertEqual(self.parts(3, [(0, 2, True)]), [(1,), (2,), (0,)])
        self.assertEqual(self.parts(4, [(0, 3, False), (1, 2, False)]), [(2,), (1,), (3,), (0,)])

    def test_the_least_fact_that_may_come_comes(self):
        self.assertEqual(self.parts(5, [(0, 4, False), (2, 1, False)]), [(1,), (2,), (3,), (4,), (0,)])
        self.assertEqual(self.parts(5, [(0, 2, False), (1, 3, False)]), [(2,), (0,), (3,), (1,), (4,)])

    def test_several_facts_in_a_part(self):
        self.assertEqual(self.parts(5, [(4, 1, False), (1, 4, True), (0, 4, False), (2, 3, False), (3, 2, False)]),
                         [(1, 4), (0,), (2, 3)])

    def test_all_facts_in_one_part(self):
        order = list(range(120))
        random.Random(31).shuffle(order)
        edges = [(fact, order[place - 1], place == 3) for place, fact in enumerate(order)]
        self.assertEqual(self.parts(120, edges), [tuple(range(120))])

    def test_a_chain_of_all_facts(self):
        edges = [(fact, fact + 1, True) for fact in range(119)]
        self.assertEqual(self.parts(120, edges), [(fact,) for fact in reversed(range(120))])

    def test_a_fact_that_leans_on_itself_is_a_part(self):
        self.assertEqual(self.parts(2, [(0, 0, True), (0, 1, False), (1, 1, False)]), [(1,), (0,)])

    def test_parts_that_lean_on_the_same(self):
        self.assertEqual(self.parts(6, [(0, 1, False), (1, 0, False), (0, 5, True), (2, 5, True), (3, 2, False),
                                        (2, 3, False)]),
                         [(4,), (5,), (0, 1), (2, 3)])

    def test_leanings_of_all_kinds_of_conds(self):
        self.assertEqual(parts_of(Sheet(4, [(0, [("some", 6, (3, 2))]), (2, [("lead", (1, 0, 3), 1)])])),
                         [(1,), (3,), (0, 2)])
        # Behind its place a lead leans on nothing.
        self.assertEqual(parts_of(Sheet(3, [(0, [("lead", (1, 2), 0)]), (2, [("have", 0)])])), [(1,), (0,), (2,)])

    def test_random_sheets(self):
        chance = random.Random(311)
        for _ in range(300):
            many = chance.randint(0, 9)
            rows = random_rows(chance, many, 9, 2)
            told = parts_of(Sheet(many, rows))
            self.assertEqual(told, reference.parts(rows, many), rows)
            self.assertEqual({part.__class__ for part in told} | {tuple}, {tuple})

    def test_a_list_that_was_told_is_the_askers_own(self):
        sheet = ring_sheet([True, False, True])
        parts_of(sheet).clear()
        self.assertEqual(parts_of(sheet), [(0, 1, 2)])


class Rings(unittest.TestCase):
    def hold_odd(self, sheet, part, told):
        """Point 32, of what is told of an odd part."""
        self.assertEqual((len(told), told[0], told[1].__class__, told[2].__class__), (3, "odd", tuple, tuple))
        walk, lacks = told[1:]
        self.assertGreaterEqual(len(walk), 2)
        self.assertEqual(walk[0], walk[-1])
        self.assertEqual(len(lacks), len(walk) - 1)
        self.assertLessEqual(len(lacks), 2 * len(part))
        for one, other, lack in zip(walk, walk[1:], lacks):
            self.assertIn(one, part)
            self.assertIs(lack.__class__, bool)
            self.assertIn((other, lack), sheet.leaned(one))
        self.assertEqual(sum(lacks) % 2, 1)

    def hold_even(self, sheet, part, told):
        """Point 32, of what is told of an even part."""
        self.assertEqual((len(told), told[0], told[1].__class__), (2, "even", tuple))
        self.assertEqual((len(told[1]), told[1][0]), (len(part), 0))
        sides = dict(zip(part, told[1]))
        self.assertEqual(set(told[1]) | {0, 1}, {0, 1})
        self.assertEqual({side.__class__ for side in told[1]}, {int})
        for fact in part:
            for other, lack in sheet.leaned(fact):
                if other in part:
                    self.assertEqual(sides[fact] != sides[other], lack)

    def hold(self, sheet):
        """Each part's rings are as told; the first words of them, in order."""
        words = []
        for part in parts_of(sheet):
            told = ring_of(sheet, part)
            inner = [lack for fact in part for other, lack in sheet.leaned(fact) if other in part]
            if told[0] == "odd":
                self.hold_odd(sheet, part, told)
            elif told[0] == "even":
                self.hold_even(sheet, part, told)
                self.assertIn(True, inner)
            else:
                self.assertEqual(told, ("ayes",) if inner else ("plain",))
                self.assertNotIn(True, inner)
            words.append(told[0])
        return words

    def ring(self, many, edges):
        sheet = Sheet(many, leaning_rows(edges))
        self.hold(sheet)
        return ring_of(sheet, parts_of(sheet)[-1])

    def test_plain(self):
        self.assertEqual(ring_of(Sheet(1, []), (0,)), ("plain",))
        self.assertEqual(self.ring(2, [(1, 0, True)]), ("plain",))
        self.assertEqual(self.ring(2, [(1, 0, False), (1, 0, True)]), ("plain",))

    def test_a_fact_that_leans_on_itself(self):
        self.assertEqual(self.ring(1, [(0, 0, False)]), ("ayes",))
        self.assertEqual(self.ring(1, [(0, 0, True)]), ("odd", (0, 0), (True,)))
        told = self.ring(1, [(0, 0, True), (0, 0, False)])
        self.assertEqual(told[0], "odd")
        self.assertLessEqual(len(told[2]), 2)

    def test_ayes(self):
        self.assertEqual(self.ring(2, [(0, 1, False), (1, 0, False)]), ("ayes",))
        self.assertEqual(self.ring(3, [(1, 2, False), (2, 1, False), (1, 0, True)]), ("ayes",))

    def test_even(self):
        self.assertEqual(self.ring(2, [(0, 1, True), (1, 0, True)]), ("even", (0, 1)))
        self.assertEqual(self.ring(3, [(1, 2, True), (2, 1, True), (1, 0, False)]), ("even", (0, 1)))
        self.assertEqual(ring_of(ring_sheet([True, False, True, False]), (0, 1, 2, 3)), ("even", (0, 1, 1, 0)))
        self.assertEqual(ring_of(ring_sheet([False, True, True]), (0, 1, 2)), ("even", (0, 0, 1)))

    def test_odd(self):
        told = self.ring(2, [(0, 1, True), (1, 0, False)])
        self.assertIn(told, [("odd", (0, 1, 0), (True, False)), ("odd", (1, 0, 1), (False, True))])
        self.assertEqual(self.ring(2, [(0, 1, True), (0, 1, False), (1, 0, True)])[0], "odd")
        self.assertEqual(self.ring(4, [(0, 1, True), (1, 0, True), (2, 3, True), (3, 2, False), (3, 0, True)])[0],
                         "odd")

    def test_even_rings_that_make_an_odd_one_together(self):
        # 0 to 1 and back, 1 to 2 and back, each with two lacks; 0 leans on 2 by a lack, which joins unlike sides.
        self.assertEqual(self.ring(3, [(0, 1, True), (1, 0, True), (1, 2, True), (2, 1, True)])[0], "even")
        self.assertEqual(self.ring(3, [(0, 1, True), (1, 0, True), (1, 2, True), (2, 1, True), (0, 2, True)])[0], "odd")

    def test_an_odd_ring_far_from_the_least_fact(self):
        edges = [(fact, fact + 1, False) for fact in range(119)] + [(fact + 1, fact, False) for fact in range(119)]
        sheet = Sheet(120, leaning_rows(edges + [(119, 119, True)]))
        self.assertEqual(self.hold(sheet), ["odd"])
        sheet = Sheet(120, leaning_rows(edges))
        self.assertEqual(self.hold(sheet), ["ayes"])

    def test_long_rings(self):
        for lacks in range(6):
            sheet = ring_sheet([place < lacks for place in range(120)])
            self.assertEqual(self.hold(sheet), ["ayes" if lacks == 0 else "odd" if lacks % 2 else "even"])

    def test_a_long_walk_that_goes_round_twice(self):
        # The one ring through all facts is even, and an odd one is closed by a shorter way back into its midst.
        edges = [(fact, (fact + 1) % 100, fact in (1, 2)) for fact in range(100)] + [(99, 2, False)]
        self.assertEqual(self.hold(Sheet(100, leaning_rows(edges))), ["odd"])

    def test_leanings_by_counts_and_least_ones(self):
        sheet = Sheet(3, [(0, [("some", 2, (1, 2))]), (1, [("lead", (0, 2), 1)]), (2, [("lead", (1, 0, 2), 0)])])
        self.assertEqual(self.hold(sheet), ["odd"])
        sheet = Sheet(2, [(0, [("lead", (1, 0), 0)]), (1, [("some", 6, (0,))])])
        self.assertEqual(self.hold(sheet), ["ayes"])

    def test_random_sheets(self):
        chance = random.Random(32)
        words = []
        for _ in range(600):
            many = chance.randint(1, 8)
            words += self.hold(Sheet(many, random_rows(chance, many, 9, 2)))
        self.assertEqual(set(words), {"plain", "ayes", "even", "odd"})

    def test_where_there_are_sides_there_is_no_odd_walk(self):
        chance = random.Random(33)
        for _ in range(300):
            many = chance.randint(2, 5)
            rows = leaning_rows([(chance.randrange(many), chance.randrange(many), chance.random() < 0.6)
                                 for _ in range(chance.randint(2, 7))])
            sheet = Sheet(many, rows)
            for part in parts_of(sheet):
                self.assertEqual(ring_of(sheet, part)[0] == "odd", self.odd_walk_there(sheet, part))

    def odd_walk_there(self, sheet, part):
        """Goes all walks from each fact of the part, of up to twice as many steps as it has facts."""
        for first in part:
            ends = {(first, 0)}
            for _ in range(2 * len(part)):
                ends = {(other, side ^ lack) for fact, side in ends for other, lack in sheet.leaned(fact)
                        if other in part}
                if (first, 1) in ends:
                    return True
        return False

    def test_the_same_is_told_again_also_of_another_sheet(self):
        chance = random.Random(34)
        for _ in range(100):
            many = chance.randint(1, 8)
            rows = random_rows(chance, many, 12, 3)
            one = Sheet(many, rows)
            other = Sheet(many, rows)
            for part in parts_of(one):
                self.assertEqual(ring_of(one, part), ring_of(one, part))
                self.assertEqual(ring_of(one, part), ring_of(other, part))


if __name__ == "__main__":
    unittest.main()
