"""Points 51 to 53: the rounds to and fro, and the true, the open and the false facts."""

import itertools
import random
import unittest

import reference
from notring.sheets import Sheet
from notring.sorting import Sorting
from samples import random_rows


def answers(sheet, told):
    sorting = Sorting(sheet, told)
    return [sorting.answer_of(fact) for fact in range(sheet.how_many())]


class Runs(unittest.TestCase):
    def test_one_pair_at_least(self):
        self.assertEqual(Sorting(Sheet(0, []), 0).runs(), [(0, 0)])
        self.assertEqual(Sorting(Sheet(3, []), 0).runs(), [(0, 0)])
        self.assertEqual(Sorting(Sheet(3, []), 0b101).runs(), [(0b101, 0b101)])
        self.assertEqual(Sorting(Sheet(2, [(0, []), (1, [("have", 0)])]), 0).runs(), [(0b11, 0b11)])

    def test_the_first_round_goes_against_the_set_without_facts(self):
        # Against what is told, fact 1 would be out of U1 already.
        sheet = Sheet(2, [(1, [("lack", 0)])])
        self.assertEqual(Sorting(sheet, 0b01).runs(), [(0b11, 0b01), (0b01, 0b01)])

    def test_a_lack_needs_a_second_round(self):
        sheet = Sheet(2, [(0, []), (1, [("lack", 0)])])
        self.assertEqual(Sorting(sheet, 0).runs(), [(0b11, 0b01), (0b01, 0b01)])

    def test_up_to_the_last_pair_that_is_not_equal_to_the_one_ahead(self):
        sheet = Sheet(3, [(0, []), (1, [("lack", 0)]), (2, [("lack", 1)])])
        self.assertEqual(Sorting(sheet, 0).runs(), [(0b111, 0b001), (0b101, 0b101)])
        sheet = Sheet(2, [(0, [("lack", 1)]), (1, [("lack", 0)])])
        self.assertEqual(Sorting(sheet, 0).runs(), [(0b11, 0)])

    def test_a_chain_in_which_each_holds_where_the_one_ahead_does_not(self):
        for many in [1, 2, 3, 4, 5, 6, 119, 120]:
            rows = [(0, [])] + [(fact, [("lack", fact - 1)]) for fact in range(1, many)]
            sorting = Sorting(Sheet(many, rows), 0)
            self.assertEqual(answers(Sheet(many, rows), 0), [("true", "false")[fact % 2] for fact in range(many)])
            # Round k finds fact 2k - 1 false and fact 2k true, beside those of the rounds ahead.
            self.assertEqual(len(sorting.runs()), many // 2 + 1)
            for turn, (upper, lower) in enumerate(sorting.runs(), 1):
                self.assertEqual(lower, reference.bits_of(range(0, min(2 * turn - 1, many), 2)))
                false = range(1, min(2 * turn - 2, many), 2)
                self.assertEqual(upper, reference.bits_of(set(range(many)) - set(false)))

    def test_the_sets_go_one_way_and_each_lower_is_in_each_upper(self):
        chance = random.Random(51)
        for _ in range(300):
            many = chance.randint(0, 9)
            rows = random_rows(chance, many, 2 * many)
            runs = Sorting(Sheet(many, rows), chance.randrange(1 << many) & chance.randrange(1 << many)).runs()
            for (upper, lower), (next_upper, next_lower) in zip(runs, runs[1:]):
                self.assertEqual((lower & ~next_lower, next_upper & ~upper), (0, 0))
                self.assertNotEqual((upper, lower), (next_upper, next_lower))
            for (upper, _), (_, lower) in itertools.product(runs, repeat=2):
                self.assertEqual(lower & ~upper, 0)

    def test_the_lists_told_are_the_askers_own(self):
        sorting = Sorting(Sheet(2, [(0, []), (1, [("lack", 0)])]), 0)
        sorting.runs().clear()
        sorting.runs().append(None)
        self.assertEqual(sorting.runs(), [(0b11, 0b01), (0b01, 0b01)])
        self.assertEqual([pair.__class__ for pair in sorting.runs()], [tuple, tuple])


class Sorted(unittest.TestCase):
    def test_true_open_and_false_facts(self):
        rows = [(0, []), (1, [("lack", 0)]), (2, [("lack", 3)]), (3, [("lack", 2)]), (4, [("have", 2), ("have", 0)])]
        sorting = Sorting(Sheet(6, rows), 0)
        self.assertEqual((sorting.true_facts(), sorting.false_facts(), sorting.open_facts()),
                         (0b000001, 0b100010, 0b011100))
        self.assertEqual([sorting.answer_of(fact) for fact in range(6)],
                         ["true", "false", "open", "open", "open", "false"])

    def test_a_sheet_without_facts(self):
        sorting = Sorting(Sheet(0, []), 0)
        self.assertEqual((sorting.true_facts(), sorting.false_facts(), sorting.open_facts()), (0, 0, 0))

    def test_told_facts_are_true_and_what_has_no_rows_is_false(self):
        self.assertEqual(answers(Sheet(3, [(1, [("lack", 1)])]), 0b010), ["false", "true", "false"])
        self.assertEqual(answers(Sheet(3, [(1, [("lack", 1)])]), 0b000), ["false", "open", "false"])

    def test_a_ring_of_haves_is_false(self):
        self.assertEqual(answers(Sheet(2, [(0, [("have", 1)]), (1, [("have", 0)])]), 0), ["false", "false"])

    def test_a_game(self):
        # win a where a moves to what does not win: a and b move to one another, b moves to c, c has no move.
        rows = [(0, [("lack", 1)]), (1, [("lack", 0)]), (1, [("lack", 2)])]
        self.assertEqual(answers(Sheet(3, rows), 0), ["false", "true", "false"])
        self.assertEqual(answers(Sheet(3, rows[:2]), 0), ["open", "open", "false"])

    def test_somes_and_leads_over_open_facts(self):
        ring = [(0, [("lack", 1)]), (1, [("lack", 0)])]
        rows = ring + [(2, [("some", 1, (0, 1))]), (3, [("some", 3, (0, 1, 4))]), (4, []), (5, [("lead", (0, 4), 1)]),
                       (6, [("lead", (4, 0), 1)])]
        self.assertEqual(answers(Sheet(7, rows), 0), ["open", "open", "open", "open", "true", "open", "false"])

    def test_as_the_reference_has_it(self):
        chance = random.Random(52)
        seen = set()
        for _ in range(600):
            many = chance.randint(0, 10)
            rows = random_rows(chance, many, 2 * many)
            told = chance.randrange(1 << many) & chance.randrange(1 << many) & chance.randrange(1 << many)
            sorting = Sorting(Sheet(many, rows), told)
            pairs = reference.runs(rows, reference.facts_in(told))
            self.assertEqual(sorting.runs(), [tuple(map(reference.bits_of, pair)) for pair in pairs])
            expected = reference.answers(rows, many, reference.facts_in(told))
            self.assertEqual([sorting.answer_of(fact) for fact in range(many)], expected)
            for word, facts in [("true", sorting.true_facts()), ("false", sorting.false_facts()),
                                ("open", sorting.open_facts())]:
                self.assertEqual(sorted(reference.facts_in(facts)), [fact for fact in range(many)
                                                                     if expected[fact] == word])
            seen.update(expected)
        self.assertEqual(seen, {"true", "false", "open"})

    def test_pairs_that_stand_held_against_all_sets(self):
        chance = random.Random(53)
        for _ in range(120):
            many = chance.randint(0, 5)
            rows = random_rows(chance, many, 2 * many)
            told = chance.randrange(1 << many) & chance.randrange(1 << many)
            least = [reference.bits_of(reference.least(rows, reference.facts_in(told), reference.facts_in(against)))
                     for against in range(1 << many)]
            standing = [(upper, lower) for upper in range(1 << many) for lower in range(1 << many)
                        if lower & ~upper == 0 and least[upper] == lower and least[lower] == upper]
            sorting = Sorting(Sheet(many, rows), told)
            true, false = sorting.true_facts(), sorting.false_facts()
            self.assertIn((sorting.open_facts() | true, true), standing)
            for upper, lower in standing:
                self.assertEqual((true & ~lower, false & upper), (0, 0))

    def test_rows_that_were_handed_in_are_added_to_afterwards(self):
        rows = [(0, [("lack", 1)])]
        sheet = Sheet(2, rows)
        sorting = Sorting(sheet, 0)
        rows.append((1, []))
        rows[0][1].clear()
        self.assertEqual((answers(sheet, 0), sorting.true_facts()), (["true", "false"], 0b01))
        self.assertEqual(Sorting(sheet, 0).runs(), sorting.runs())

    def test_two_sortings_of_one_sheet(self):
        sheet = Sheet(2, [(0, [("lack", 1)])])
        one = Sorting(sheet, 0)
        other = Sorting(sheet, 0b10)
        self.assertEqual((one.true_facts(), other.true_facts()), (0b01, 0b10))
        self.assertEqual((one.answer_of(0), other.answer_of(0)), ("true", "false"))


if __name__ == "__main__":
    unittest.main()
