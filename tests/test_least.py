"""Points 41 to 43: the least set, with its steps and rows."""

import itertools
import random
import unittest

import reference
from notring.least import least_set, ranked_set
from notring.sheets import Sheet
from samples import random_rows


class Steps(unittest.TestCase):
    def rank(self, many, rows, told, against, ranked):
        sheet = Sheet(many, rows)
        self.assertEqual(ranked_set(sheet, told, against), ranked)
        self.assertEqual(least_set(sheet, told, against), reference.bits_of(fact for fact, _, _ in ranked))

    def test_a_sheet_without_facts(self):
        self.rank(0, [], 0, 0, [])

    def test_a_sheet_without_rows(self):
        self.rank(3, [], 0, 0b111, [])
        self.rank(3, [], 0b101, 0, [(0, 0, None), (2, 0, None)])

    def test_told_facts_come_at_step_0_also_where_they_have_rows(self):
        self.rank(3, [(0, []), (1, []), (2, [("have", 1)])], 0b101, 0, [(0, 0, None), (2, 0, None), (1, 1, 1)])

    def test_rows_without_conds_come_at_step_1(self):
        self.rank(3, [(2, []), (0, [])], 0, 0b111, [(0, 1, 1), (2, 1, 0)])

    def test_facts_of_one_step_rise(self):
        rows = [(4, []), (3, [("have", 4)]), (0, [("have", 4)]), (2, []), (1, [("have", 2)])]
        self.rank(5, rows, 0, 0, [(2, 1, 3), (4, 1, 0), (0, 2, 2), (1, 2, 4), (3, 2, 1)])

    def test_the_row_of_the_least_number_among_those_carried_then(self):
        rows = [(1, [("have", 2)]), (1, [("lack", 3)]), (1, []), (1, [("lack", 0)]), (2, [])]
        self.rank(4, rows, 0, 0b1000, [(1, 1, 2), (2, 1, 4)])
        self.rank(4, rows, 0, 0b0000, [(1, 1, 1), (2, 1, 4)])
        self.rank(4, rows, 0b0100, 0b1000, [(2, 0, None), (1, 1, 0)])

    def test_the_row_of_a_late_fact_when_several_were_helped_at_once(self):
        rows = [(3, [("have", 2), ("have", 1)]), (3, [("have", 1)]), (1, [("have", 0)]), (2, [("have", 1)]),
                (3, [("have", 1)])]
        self.rank(4, rows, 0b0001, 0, [(0, 0, None), (1, 1, 2), (2, 2, 3), (3, 2, 1)])

    def test_have(self):
        self.rank(2, [(1, [("have", 0)])], 0, 0b11, [])
        self.rank(2, [(1, [("have", 0)])], 0b01, 0, [(0, 0, None), (1, 1, 0)])

    def test_lack_looks_at_the_set_against_alone(self):
        self.rank(2, [(1, [("lack", 0)])], 0, 0b01, [])
        self.rank(2, [(1, [("lack", 0)])], 0b01, 0b10, [(0, 0, None), (1, 1, 0)])

    def test_some(self):
        rows = [(3, [("some", 2, (0, 1, 2))]), (2, [("some", 1, (1, 0))])]
        self.rank(4, rows, 0b0001, 0, [(0, 0, None), (2, 1, 1), (3, 2, 0)])
        self.rank(4, rows, 0b0000, 0b0011, [])
        self.rank(4, rows, 0b0100, 0, [(2, 0, None)])

    def test_lead(self):
        rows = [(3, [("lead", (0, 1, 2), 1)])]
        self.rank(4, rows, 0b0010, 0b1110, [(1, 0, None), (3, 1, 0)])
        self.rank(4, rows, 0b0010, 0b0001, [(1, 0, None)])
        self.rank(4, rows, 0b0011, 0b0000, [(0, 0, None), (1, 0, None), (3, 1, 0)])

    def test_a_ring_of_haves_does_not_carry_itself(self):
        self.rank(2, [(0, [("have", 1)]), (1, [("have", 0)])], 0, 0b11, [])

    def test_a_chain_of_120_facts_in_an_order_that_is_not_theirs(self):
        order = list(range(120))
        random.Random(41).shuffle(order)
        rows = [(fact, [("have", order[place])]) for place, fact in enumerate(order[1:])]
        random.Random(42).shuffle(rows)
        expected = [(order[0], 0, None)] + [
            (fact, step, [head for head, _ in rows].index(fact)) for step, fact in enumerate(order) if step]
        self.rank(120, rows, 1 << order[0], 0, expected)
        self.rank(120, list(reversed(rows)), 1 << order[0], (1 << 120) - 1,
                  [(fact, step, row if row is None else 118 - row) for fact, step, row in expected])

    def test_400_rows(self):
        rows = [(row % 120, [("have", (row + 1) % 120)]) for row in range(400)]
        self.rank(120, rows, 1 << 119, 0, [(119, 0, None)] + [(fact, 119 - fact, fact)
                                                              for fact in reversed(range(119))])


class Least(unittest.TestCase):
    def cases(self, seed, how_many, most_facts):
        chance = random.Random(seed)
        for _ in range(how_many):
            many = chance.randint(0, most_facts)
            rows = random_rows(chance, many, 2 * many)
            told = chance.randrange(1 << many) & chance.randrange(1 << many)
            yield many, rows, told, chance.randrange(1 << many)

    def test_as_the_reference_has_it(self):
        for many, rows, told, against in self.cases(43, 600, 9):
            sheet = Sheet(many, rows)
            expected = reference.ranked(rows, reference.facts_in(told), reference.facts_in(against))
            self.assertEqual(ranked_set(sheet, told, against), expected)
            self.assertEqual(least_set(sheet, told, against), reference.bits_of(fact for fact, _, _ in expected))

    def test_it_is_in_every_closed_set_that_has_the_told_facts(self):
        for many, rows, told, against in self.cases(44, 120, 5):
            may = reference.facts_in(against)
            closed = []
            for bits in range(1 << many):
                have = reference.facts_in(bits)
                if bits & told == told and all(head in have for head, conds in rows
                                               if all(reference.carried(cond, have, may) for cond in conds)):
                    closed.append(bits)
            least = least_set(Sheet(many, rows), told, against)
            self.assertIn(least, closed)
            self.assertEqual([bits for bits in closed if bits & least != least], [])

    def test_no_more_against_more_and_no_less_of_more_told(self):
        for many, rows, told, against in self.cases(45, 60, 4):
            sheet = Sheet(many, rows)
            least = least_set(sheet, told, against)
            for more in range(1 << many):
                self.assertEqual(least_set(sheet, told, against | more) & ~least, 0)
                self.assertEqual(least & ~least_set(sheet, told | more, against), 0)

    def test_all_sets_of_one_sheet(self):
        rows = [(0, [("lack", 1)]), (1, [("lack", 0), ("some", 1, (2, 3))]), (2, [("lead", (3, 0), 1)]),
                (3, [("have", 2)])]
        for told, against in itertools.product(range(16), repeat=2):
            expected = reference.least(rows, reference.facts_in(told), reference.facts_in(against))
            self.assertEqual(least_set(Sheet(4, rows), told, against), reference.bits_of(expected))

    def test_a_list_that_was_told_is_changed_and_the_same_is_told_again(self):
        rows = [(0, []), (1, [("have", 0)])]
        sheet = Sheet(2, rows)
        told = ranked_set(sheet, 0, 0)
        told.append(None)
        told[0] = None
        rows.clear()
        self.assertEqual(ranked_set(sheet, 0, 0), [(0, 1, 0), (1, 2, 1)])
        self.assertEqual(least_set(sheet, 0, 0), 0b11)


if __name__ == "__main__":
    unittest.main()
