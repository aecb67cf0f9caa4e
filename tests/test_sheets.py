"""Points 4, 5, 22 and 23: what is a sheet, how it is refused, and what it tells."""

import copy
import random
import unittest

import reference
from notring.conds import Have, Lack, Lead, Some
from notring.errors import NoSheet
from notring.sheets import Sheet
from samples import NO_TEXTS, deep, random_rows

ROWS = [
    (2, [("have", 0), ("lack", 1)]),
    (0, []),
    (2, [("some", 2, (3, 0, 1)), ("lead", (4, 0, 3), 1)]),
    (4, [("lack", 4), ("have", 4), ("have", 0), ("lack", 4)]),
]

NO_WHOLE = [True, False, None, "0", "", [], (), {}, [0], (0,), deep(0, 20)]


class Telling(unittest.TestCase):
    def test_facts_and_rows(self):
        sheet = Sheet(5, ROWS)
        self.assertEqual(sheet.how_many(), 5)
        self.assertEqual(sheet.row_list(), [(head, tuple(conds)) for head, conds in ROWS])
        for row in sheet.row_list():
            self.assertEqual([row.__class__, row[1].__class__], [tuple, tuple])
        self.assertEqual([sheet.head_of(row) for row in range(4)], [2, 0, 2, 4])
        self.assertEqual([sheet.rows_for(fact) for fact in range(5)], [[1], [], [0, 2], [], [3]])

    def test_conds_of_a_row(self):
        sheet = Sheet(5, ROWS)
        self.assertEqual([[cond.shown() for cond in sheet.conds_of(row)] for row in range(4)],
                         [conds for _, conds in ROWS])
        self.assertEqual([cond.__class__ for cond in sheet.conds_of(0) + sheet.conds_of(2)], [Have, Lack, Some, Lead])
        self.assertEqual(sheet.conds_of(1), [])

    def test_on_what_a_fact_leans(self):
        sheet = Sheet(5, ROWS)
        self.assertEqual(sheet.leaned(0), [])
        self.assertEqual(sheet.leaned(1), [])
        self.assertEqual(sheet.leaned(2), [(0, False), (1, False), (1, True), (3, False), (4, True)])
        self.assertEqual(sheet.leaned(4), [(0, False), (4, False), (4, True)])
        for _, lack in sheet.leaned(2):
            self.assertIs(lack.__class__, bool)

    def test_leanings_are_sorted_by_numbers_and_not_by_texts(self):
        rows = [(0, [("have", 100), ("lack", 20), ("have", 20), ("lack", 3)]), (0, [("some", 1, (119, 9, 20))])]
        self.assertEqual(Sheet(120, rows).leaned(0),
                         [(3, True), (9, False), (20, False), (20, True), (100, False), (119, False)])

    def test_random_sheets(self):
        chance = random.Random(22)
        for _ in range(200):
            many = chance.randint(0, 12)
            rows = random_rows(chance, many, 14, 6)
            sheet = Sheet(many, rows)
            self.assertEqual(sheet.row_list(), [(head, tuple(conds)) for head, conds in rows])
            for fact in range(many):
                self.assertEqual(sheet.leaned(fact), reference.leaned(rows, fact))
                self.assertEqual(sheet.rows_for(fact), [row for row, (head, _) in enumerate(rows) if head == fact])

    def test_the_least_and_the_largest_sheets(self):
        sheet = Sheet(0, [])
        self.assertEqual((sheet.how_many(), sheet.row_list()), (0, []))
        sheet = Sheet(120, [])
        self.assertEqual((sheet.how_many(), sheet.row_list(), sheet.rows_for(119), sheet.leaned(119)),
                         (120, [], [], []))
        six = [("have", 119), ("lack", 0), ("some", 6, (1, 2, 3, 4, 5, 119)), ("lead", (6, 5, 4, 3, 2, 119), 5),
               ("some", 1, (7,)), ("lead", (8,), 0)]
        sheet = Sheet(120, [(119, six)] * 400)
        self.assertEqual(sheet.row_list(), [(119, tuple(six))] * 400)
        self.assertEqual(sheet.rows_for(119), list(range(400)))
        self.assertEqual(sheet.rows_for(0), [])
        self.assertEqual((sheet.head_of(399), len(sheet.conds_of(399))), (119, 6))


class Apart(unittest.TestCase):
    def told(self, sheet):
        facts = range(sheet.how_many())
        rows = range(len(sheet.row_list()))
        return (sheet.how_many(), sheet.row_list(), [sheet.rows_for(fact) for fact in facts],
                [sheet.leaned(fact) for fact in facts], [sheet.head_of(row) for row in rows],
                [[cond.shown() for cond in sheet.conds_of(row)] for row in rows])

    def test_what_was_handed_in_is_changed_afterwards(self):
        rows = copy.deepcopy(ROWS)
        sheet = Sheet(5, rows)
        before = self.told(sheet)
        rows[0][1].append(("have", 3))
        rows[2][1].clear()
        rows.append((1, []))
        rows[1] = (3, [])
        self.assertEqual(self.told(sheet), before)
        self.assertEqual(self.told(sheet), self.told(Sheet(5, ROWS)))

    def test_what_is_handed_in_is_not_changed(self):
        rows = copy.deepcopy(ROWS)
        self.told(Sheet(5, rows))
        self.assertEqual(rows, ROWS)
        thing = [(0, [("have", [1, {"a": [2]}])])]
        self.assertRaises(NoSheet, Sheet, 5, thing)
        self.assertEqual(thing, [(0, [("have", [1, {"a": [2]}])])])

    def test_lists_that_were_told_are_emptied(self):
        sheet = Sheet(5, ROWS)
        before = self.told(sheet)
        for _ in range(2):
            sheet.row_list().clear()
            for fact in range(5):
                sheet.rows_for(fact).clear()
                sheet.leaned(fact).append((0, False))
                sheet.leaned(fact).clear()
            for row in range(4):
                sheet.conds_of(row).clear()
        self.assertEqual(self.told(sheet), before)

    def test_two_sheets_of_one_list(self):
        rows = copy.deepcopy(ROWS)
        one = Sheet(5, rows)
        rows.clear()
        other = Sheet(5, rows)
        self.assertEqual((len(one.row_list()), other.row_list()), (4, []))


class Refused(unittest.TestCase):
    def refuse(self, many, rows, row):
        with self.assertRaises(NoSheet, msg=repr((many, rows))) as caught:
            Sheet(many, rows)
        self.assertIs(caught.exception.__class__, NoSheet)
        self.assertEqual(caught.exception.row, row, repr((many, rows)))
        self.assertIs(caught.exception.row.__class__, row.__class__)

    def refuse_row(self, row, many=8):
        """The row is wrong wherever it stands, and the first wrong one is told."""
        right = (0, [("have", 1)])
        self.refuse(many, [row], 0)
        self.refuse(many, [right, right, row], 2)
        self.refuse(many, [right, row, right, row, None], 1)
        self.refuse(many, [right] * 399 + [row], 399)

    def refuse_cond(self, cond, many=8):
        right = ("lack", 0)
        self.refuse_row((1, [cond]), many)
        self.refuse_row((1, [right, cond]), many)
        self.refuse_row((1, [cond] + [right] * 5), many)

    def test_numbers_of_facts(self):
        for many in [-1, -120, 121, 122, 1000, 10 ** 99, -(10 ** 99)] + NO_WHOLE + NO_TEXTS:
            if many.__class__ is int and 0 <= many <= 120:
                continue
            self.refuse(many, [], None)
            self.refuse(many, [None], None)
            self.refuse(many, None, None)

    def test_rows_that_are_no_list(self):
        for rows in [None, True, 0, 7, "", "rows", (), ((0, []),), {}, {0: []}, {"rows": []}]:
            self.refuse(2, rows, None)
            self.refuse(0, rows, None)

    def test_more_than_400_things(self):
        self.refuse(2, [(0, [])] * 401, None)
        self.refuse(2, [None] * 401, None)
        self.refuse(2, [None] * 400, 0)
        self.refuse(0, [(0, [])] * 1000, None)

    def test_rows_that_are_no_tuple_of_two(self):
        for row in [None, True, 0, "row", "ab", [], [0, []], {}, {0: []}, (), (0,), (0, [], []), (0, [], None),
                    ([], 0)]:
            self.refuse_row(row)
        for row in NO_TEXTS:
            self.refuse_row(row)

    def test_heads(self):
        for head in [-1, 8, 9, 120, 10 ** 99] + NO_WHOLE:
            self.refuse_row((head, []))
            self.refuse_row((head, [("have", 0)]))
        self.refuse(0, [(0, [])], 0)
        self.refuse(1, [(0, []), (1, [])], 1)
        self.refuse(2, [(True, [])], 0)

    def test_conds_that_are_no_list(self):
        for conds in [None, True, 0, "", "have", (), (("have", 0),), {}, {"have": 0}, ("have", 0)]:
            self.refuse_row((0, conds))

    def test_seven_conds(self):
        Sheet(8, [(0, [("have", 0)] * 6)])
        self.refuse_row((0, [("have", 0)] * 7))
        self.refuse_row((0, [None] * 7))

    def test_conds_of_another_form(self):
        for cond in [None, True, 0, "have", "have 0", [], ["have", 0], {}, {"have": 0}, (), ("have",), ("lack",),
                     ("some",), ("lead",), ("have", 0, 0), ("lack", 0, 0), ("have", 0, None), ("have", (0,)),
                     ("some", 1), ("some", (0,)), ("some", 1, (0,), 0), ("some", (0,), 1), ("lead", (0,)),
                     ("lead", 0, (0,)), ("lead", (0,), 0, 0), (0, "have"), (0,), (0, 0), ("aye", 0), ("not", 0),
                     ("many", 1, (0,)), ("first", (0,), 0), ("Have", 0), ("have ", 0), ("", 0), (None, 0),
                     (("have",), 0), (["have"], 0), ({"have": 0}, 0), (True, 0), ("have", 0, (0,)), ("lack", 1, (0,)),
                     ("have", (0,), 0), ("lead", 1, (0,)), ("some", (0,), 0)]:
            self.refuse_cond(cond)

    def test_facts_of_haves_and_lacks(self):
        for fact in [-1, 8, 120, 10 ** 99] + NO_WHOLE:
            self.refuse_cond(("have", fact))
            self.refuse_cond(("lack", fact))

    def test_facts_of_somes_and_leads(self):
        for facts in [None, True, 0, "", "0", [], [0], [0, 1], {}, {0: 1}, (), (0, 1, 2, 3, 4, 5, 6), (0, 0), (0, 1, 0),
                      (5, 4, 3, 2, 1, 5), (8,), (-1,), (0, 8), (True,), (0, True), (False, 1), (1, None), ("0",),
                      ((0,),), ([0],), ({},), (0, [1]), (10 ** 99,)]:
            self.refuse_cond(("some", 1, facts))
            self.refuse_cond(("lead", facts, 0))

    def test_numbers_of_somes(self):
        for number in [0, -1, 7, 8, 10 ** 99] + NO_WHOLE:
            self.refuse_cond(("some", number, (0, 1)))

    def test_places_of_leads(self):
        for at in [-1, 2, 3, 10 ** 99] + NO_WHOLE:
            self.refuse_cond(("lead", (3, 4), at))
        self.refuse_cond(("lead", (3,), 1))
        self.refuse_cond(("lead", (0, 1, 2, 3, 4, 5), 6))

    def test_two_wrong_rows_at_once(self):
        self.refuse(3, [(0, []), (3, []), (0, [("have", 3)])], 1)
        self.refuse(3, [(0, []), (0, [("have", 3)]), (3, [])], 1)
        self.refuse(3, [None, (3, [])], 0)

    def test_anything_deep_in_one_another(self):
        for thing in [deep(0, 20), deep("have", 19), deep([], 18), deep((0, []), 15), deep(("have", 0), 12)]:
            self.refuse(3, [thing], 0)
            self.refuse(3, [(0, []), (thing, [])], 1)
            self.refuse(3, [(0, [thing])], 0)
            self.refuse(3, [(0, [("have", thing)])], 0)
            self.refuse(3, [(0, [(thing, 0)])], 0)
            self.refuse(3, [(0, [("some", thing, (0,))])], 0)
            self.refuse(3, [(0, [("some", 1, (0, thing))])], 0)
            self.refuse(3, [(0, [("lead", (thing, 0), 1)])], 0)
            self.refuse(3, [(0, [("lead", (0,), thing)])], 0)
            self.refuse(thing, [], None)


if __name__ == "__main__":
    unittest.main()
