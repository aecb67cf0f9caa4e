"""Points 61 to 64: papers that are told, papers that hold, and what is no papers."""

import itertools
import unittest

import reference
from notring.papers import papers_hold, papers_of
from notring.sheets import Sheet
from notring.sorting import Sorting
from samples import NO_TEXTS, deep, random_cases

# Fact 0 is told, 1 true by it, 2 and 5 false, 3 and 4 open, 6 true for the lack of 2.
ROWS = [(1, [("have", 0)]), (2, [("lack", 1)]), (3, [("lack", 4)]), (4, [("lack", 3)]), (4, [("have", 2)]),
        (6, [("lack", 2)])]
MANY = 7
TOLD = 0b0000001
PAPERS = [("true", 0, 0, None), ("true", 1, 1, 0), ("false", 2), ("open", 1, 2), ("open", 1, 3), ("false", 1),
          ("true", 2, 1, 5)]


def answers(sheet, told):
    sorting = Sorting(sheet, told)
    return [sorting.answer_of(fact) for fact in range(sheet.how_many())]


class Told(unittest.TestCase):
    def test_each_form(self):
        self.assertEqual(papers_of(Sheet(MANY, ROWS), TOLD), PAPERS)
        for paper in papers_of(Sheet(MANY, ROWS), TOLD):
            self.assertIs(paper.__class__, tuple)

    def test_a_sheet_without_facts(self):
        self.assertEqual(papers_of(Sheet(0, []), 0), [])
        self.assertIs(papers_hold(Sheet(0, []), 0, []), True)
        self.assertIs(papers_hold(Sheet(0, []), 0, ()), False)
        self.assertIs(papers_hold(Sheet(0, []), 0, [("false", 1)]), False)

    def test_told_facts_have_the_first_form_also_where_rows_carry_them(self):
        self.assertEqual(papers_of(Sheet(1, [(0, [])]), 1), [("true", 0, 0, None)])
        self.assertEqual(papers_of(Sheet(1, [(0, [("lack", 0)])]), 1), [("true", 0, 0, None)])

    def test_steps_of_true_facts_against_their_own_round(self):
        rows = [(0, []), (1, [("lack", 0)]), (2, [("lack", 1)]), (3, [("have", 2)]), (3, [("have", 0), ("have", 2)]),
                (4, [("have", 0)])]
        self.assertEqual(papers_of(Sheet(5, rows), 0), [
            ("true", 1, 1, 0), ("false", 2), ("true", 2, 1, 2), ("true", 2, 2, 3), ("true", 1, 2, 5)])

    def test_steps_of_open_facts_against_the_true_ones(self):
        rows = [(0, [("lack", 1)]), (1, [("lack", 0)]), (2, [("have", 3)]), (3, [("have", 0), ("have", 1)]),
                (3, [("have", 1)]),
                (4, [("lack", 2)]), (5, [("have", 4), ("lack", 5)])]
        self.assertEqual(papers_of(Sheet(6, rows), 0), [
            ("open", 1, 0), ("open", 1, 1), ("open", 3, 2), ("open", 2, 3), ("open", 1, 5), ("open", 2, 6)])

    def test_a_long_chain(self):
        rows = [(0, [])] + [(fact, [("lack", fact - 1)]) for fact in range(1, 120)]
        expected = [("true", fact // 2 + 1, 1, fact) if fact % 2 == 0 else ("false", fact // 2 + 2)
                    for fact in range(120)]
        sheet = Sheet(120, rows)
        self.assertEqual(papers_of(sheet, 0), expected)
        self.assertIs(papers_hold(sheet, 0, expected), True)

    def test_as_the_reference_has_them_and_they_hold(self):
        for _, many, rows, told in random_cases(62, 500, 9):
            sheet = Sheet(many, rows)
            papers = papers_of(sheet, told)
            self.assertEqual(papers, reference.papers(rows, many, reference.facts_in(told)))
            self.assertIs(papers_hold(sheet, told, papers), True)
            self.assertEqual([paper[0] for paper in papers], answers(sheet, told))

    def test_the_list_is_the_askers_own(self):
        sheet = Sheet(MANY, ROWS)
        papers_of(sheet, TOLD).clear()
        self.assertEqual(papers_of(sheet, TOLD), PAPERS)


class Holding(unittest.TestCase):
    def hold(self, papers, holds, many=MANY, rows=ROWS, told=TOLD):
        before = list(papers)
        self.assertIs(papers_hold(Sheet(many, rows), told, papers), holds, repr(papers))
        self.assertEqual(papers, before)

    def hold_with(self, fact, paper, holds):
        self.hold(PAPERS[:fact] + [paper] + PAPERS[fact + 1:], holds)

    def test_other_rounds_and_steps_that_hold(self):
        self.hold(PAPERS, True)
        self.hold_with(1, ("true", 0, 1, 0), True)
        self.hold_with(1, ("true", 1, -5, 0), True)
        self.hold_with(2, ("false", 9), False)
        self.hold_with(5, ("false", -3), True)
        self.hold_with(5, ("false", 10 ** 99), True)
        self.hold_with(3, ("open", -7, 2), True)
        self.hold_with(6, ("true", 7, -8, 5), True)
        self.hold([("true", 0, 0, None), ("true", 5, 2, 0), ("false", 6), ("open", 0, 2), ("open", 9, 3), ("false", 40),
                   ("true", 6, 0, 5)], True)

    def test_rounds_and_steps_that_do_not_come_in_their_order(self):
        self.hold_with(1, ("true", 0, 0, 0), False)
        self.hold_with(1, ("true", -1, 5, 0), False)
        self.hold_with(1, ("true", 2, 1, 0), False)
        self.hold_with(2, ("false", 1), False)
        self.hold_with(2, ("false", 0), False)
        self.hold_with(6, ("true", 1, 9, 5), False)
        self.hold_with(6, ("true", 2, 0, 5), True)

    def test_a_fact_of_the_same_round_and_step_is_not_ahead(self):
        rows = [(0, []), (1, [("have", 0)])]
        self.hold([("true", 1, 1, 0), ("true", 1, 2, 1)], True, 2, rows, 0)
        self.hold([("true", 1, 1, 0), ("true", 1, 1, 1)], False, 2, rows, 0)
        self.hold([("true", 1, 2, 0), ("true", 1, 1, 1)], False, 2, rows, 0)
        self.hold([("true", 1, 9, 0), ("true", 2, 1, 1)], True, 2, rows, 0)
        self.hold([("true", 2, 1, 0), ("true", 1, 9, 1)], False, 2, rows, 0)

    def test_a_row_without_conds_is_right_at_any_round_and_step(self):
        for turn, step in itertools.product([-10 ** 99, -1, 0, 1, 10 ** 99], repeat=2):
            self.hold([("true", turn, step, 0)], True, 1, [(0, [])], 0)

    def test_a_told_fact_may_be_true_by_a_row(self):
        self.hold([("true", 3, 3, 0)], True, 1, [(0, [])], 1)
        self.hold([("true", 0, 0, 0)], True, 1, [(0, [])], 1)
        self.hold([("true", 3, 3, 0)], False, 1, [(0, [("have", 0)])], 1)

    def test_the_first_form_of_a_fact_that_is_not_told(self):
        self.hold([("true", 0, 0, None)], False, 1, [(0, [])], 0)
        self.hold_with(1, ("true", 0, 0, None), False)

    def test_a_told_fact_is_neither_false_nor_open(self):
        self.hold([("true", 0, 0, None)], True, 1, [], 1)
        self.hold([("false", 1)], False, 1, [], 1)
        self.hold([("false", 1)], False, 1, [(0, [("have", 0)])], 1)
        self.hold([("open", 1, 0)], True, 1, [(0, [("lack", 0)])], 0)
        self.hold([("open", 1, 0)], False, 1, [(0, [("lack", 0)])], 1)

    def test_a_true_fact_looks_at_what_is_false_by_its_own_round(self):
        rows = [(0, [("lack", 1)])]
        self.hold([("true", 4, 0, 0), ("false", 4)], True, 2, rows, 0)
        self.hold([("true", 3, 0, 0), ("false", 4)], False, 2, rows, 0)

    def test_a_false_fact_looks_at_lesser_rounds_of_true_ones_and_at_its_own_of_false_ones(self):
        rows = [(0, []), (1, [("lack", 0)]), (2, [("have", 1)])]
        self.hold([("true", 1, 9, 0), ("false", 2), ("false", 2)], True, 3, rows, 0)
        self.hold([("true", 1, 9, 0), ("false", 1), ("false", 2)], False, 3, rows, 0)
        self.hold([("true", 1, 9, 0), ("false", 3), ("false", 2)], False, 3, rows, 0)

    def test_a_ring_of_haves_is_false_by_one_round(self):
        rows = [(0, [("have", 1)]), (1, [("have", 0)])]
        self.hold([("false", 5), ("false", 5)], True, 2, rows, 0)
        self.hold([("false", 5), ("false", 6)], False, 2, rows, 0)
        self.hold([("open", 1, 0), ("open", 2, 1)], False, 2, rows, 0)
        self.hold([("true", 1, 1, 0), ("true", 1, 2, 1)], False, 2, rows, 0)

    def test_an_open_fact_with_a_row_that_is_met(self):
        ring = [(0, [("lack", 1)]), (1, [("lack", 0)])]
        self.hold([("open", 1, 0), ("open", 1, 1)], True, 2, ring, 0)
        self.hold([("open", 1, 0), ("open", 1, 1)], False, 2, ring + [(0, [])], 0)
        self.hold([("open", 1, 0), ("open", 1, 1)], False, 2, ring + [(0, [("lack", 1), ("have", 1)]), (1, [])], 0)
        self.hold([("open", 1, 0), ("false", 1)], False, 2, ring, 0)
        self.hold([("open", 1, 0), ("true", 1, 1, 1)], False, 2, ring, 0)

    def test_the_row_of_an_open_fact_leans_on_open_ones_of_lesser_steps(self):
        rows = [(0, [("lack", 1)]), (1, [("lack", 0)]), (2, [("have", 0)]), (2, [("have", 1), ("have", 2)])]
        self.hold([("open", 1, 0), ("open", 1, 1), ("open", 2, 2)], True, 3, rows, 0)
        self.hold([("open", 1, 0), ("open", 1, 1), ("open", 1, 2)], False, 3, rows, 0)
        self.hold([("open", 2, 0), ("open", 1, 1), ("open", 2, 2)], False, 3, rows, 0)
        self.hold([("open", 1, 0), ("open", 1, 1), ("open", 9, 3)], False, 3, rows, 0)
        self.hold([("open", 7, 0), ("open", 10 ** 99, 1), ("open", 8, 2)], True, 3, rows, 0)

    def test_another_row_that_holds_and_one_that_does_not(self):
        rows = [(0, [("have", 0)]), (0, []), (0, [("lack", 1)]), (1, [("have", 0), ("have", 1)])]
        for row, holds in [(0, False), (1, True), (2, True), (3, False)]:
            self.hold([("true", 1, 1, row), ("false", 1)], holds, 2, rows, 0)

    def test_another_answer(self):
        for fact in range(MANY):
            for paper in [("true", 0, 0, None), ("true", 9, 9, 0), ("true", 9, 9, 3), ("false", 9), ("false", 0),
                          ("open", 9, 1),
                          ("open", 9, 4), ("true", 9, 9, 1), ("true", 9, 9, 2), ("open", 9, 0), ("open", 9, 5)]:
                if paper[0] != PAPERS[fact][0]:
                    self.hold_with(fact, paper, False)


class NoPapers(unittest.TestCase):
    def refuse(self, papers, many=MANY, rows=ROWS, told=TOLD):
        self.assertIs(papers_hold(Sheet(many, rows), told, papers), False, repr(papers))

    def test_no_list(self):
        for thing in NO_TEXTS + ["", "papers", tuple(PAPERS), {}, dict(enumerate(PAPERS))]:
            self.refuse(thing)

    def test_one_too_many_and_one_too_few(self):
        self.refuse(PAPERS[:-1])
        self.refuse(PAPERS[1:])
        self.refuse(PAPERS + [("false", 1)])
        self.refuse(PAPERS + [None])
        self.refuse([])

    def test_papers_of_another_kind_length_or_word(self):
        for fact, right in enumerate(PAPERS):
            others = [list(right), right[:-1], right[1:], right + (0,), right + (None,), (right,), (right[0].upper(),)
                      + right[1:],
                      (right[0] + " ",) + right[1:], ("plain",) + right[1:], (None,) + right[1:], (True,) + right[1:],
                      ([right[0]],) + right[1:], ((right[0],),) + right[1:], ({},) + right[1:], right[0],
                      dict.fromkeys(right), (), ("",),
                      (right[0],), right[:1] + (0,) + right[1:]]
            for paper in others + NO_TEXTS + [deep(right, 10)]:
                self.refuse(PAPERS[:fact] + [paper] + PAPERS[fact + 1:])

    def test_what_would_be_right_but_for_its_word_or_length(self):
        for fact, papers in [(3, [("open", 1, 2, 2), ("plain", 1, 2, 2), ("open", 1, 2, None), ("plain", 1, 2),
                                  ("", 1, 2, 2)]),
                             (1, [("true", 1, 1, 0, 0), ("plain", 1, 1, 0), ("open", 1, 1, 0)]),
                             (5, [("false", 1, 1), ("false", 1, None), ("plain", 1), ("false", 1, 1, None)]),
                             (0, [("plain", 0, 0, None), ("true", 0, 0), ("true", 0, None),
                                  ("true", 0, 0, None, None)])]:
            for paper in papers:
                self.refuse(PAPERS[:fact] + [paper] + PAPERS[fact + 1:])

    def test_no_whole_numbers(self):
        for fact, right in enumerate(PAPERS):
            for place in range(1, len(right)):
                for thing in [True, False, None, "", "1", "0", [], [0], (0,), {}, {0: 1}, deep(0, 15)]:
                    if thing is not None or right[place] is not None:
                        self.refuse(PAPERS[:fact] + [right[:place] + (thing,) + right[place + 1:]] + PAPERS[fact + 1:])

    def test_truths_for_right_numbers(self):
        rows = [(0, []), (0, [])]
        self.assertIs(papers_hold(Sheet(1, rows), 0, [("true", 1, 0, 1)]), True)
        for paper in [("true", True, 0, 1), ("true", 1, False, 1), ("true", 1, 0, True), ("true", 1, 0, False),
                      ("true", False, False, 0)]:
            self.refuse([paper], 1, rows, 0)
        for paper in [("true", False, 0, None), ("true", 0, False, None), ("true", False, False, None)]:
            self.refuse([paper], 1, rows, 1)
        self.refuse([("false", True)], 1, [], 0)
        self.refuse([("open", True, 0)], 1, [(0, [("lack", 0)])], 0)
        self.refuse([("open", 1, False)], 1, [(0, [("lack", 0)])], 0)

    def test_rows_that_are_none_or_another_facts(self):
        for row in [-1, -6, 6, 7, 400, 10 ** 99, -(10 ** 99), 1, 2, 3, 4, 5]:
            self.refuse(PAPERS[:1] + [("true", 1, 1, row)] + PAPERS[2:])
        for row in [-1, -4, -5, 6, 0, 1, 3, 4, 5]:
            self.refuse(PAPERS[:3] + [("open", 1, row)] + PAPERS[4:])
        # Each of these rows has no conds, so it is its head alone that tells them apart.
        rows = [(0, []), (1, [])]
        self.assertIs(papers_hold(Sheet(2, rows), 0, [("true", 1, 1, 0), ("true", 1, 1, 1)]), True)
        self.refuse([("true", 1, 1, 1), ("true", 1, 1, 0)], 2, rows, 0)
        self.refuse([("true", 1, 1, -2), ("true", 1, 1, -1)], 2, rows, 0)

    def test_none_with_numbers_that_are_not_0(self):
        for turn, step in [(0, 1), (1, 0), (1, 1), (-1, 0), (0, -1), (10 ** 99, 0)]:
            self.refuse([("true", turn, step, None)] + PAPERS[1:])
        self.refuse(PAPERS[:3] + [("open", 1, None)] + PAPERS[4:])
        self.refuse(PAPERS[:3] + [("open", 0, None)] + PAPERS[4:])
        self.refuse(PAPERS[:5] + [("false", None)] + PAPERS[6:])

    def test_what_is_handed_in_is_not_changed(self):
        thing = [["true", [0, {"a": [1]}]], ("false", [1])]
        self.refuse(thing, 2, [], 0)
        self.assertEqual(thing, [["true", [0, {"a": [1]}]], ("false", [1])])


class Others(unittest.TestCase):
    """Point 64: whichever papers hold, their answers are those of the sorting."""

    def random_paper(self, chance, rows, fact, told):
        own = [row for row, (head, _) in enumerate(rows) if head == fact]
        forms = [("false", chance.randint(-1, 3))]
        if told >> fact & 1:
            forms += [("true", 0, 0, None)] * 3
        if own:
            forms.append(("true", chance.randint(-1, 3), chance.randint(-1, 3), chance.choice(own)))
            forms.append(("open", chance.randint(-1, 3), chance.choice(own)))
        return chance.choice(forms)

    def test_random_papers_as_the_reference_has_them(self):
        held = 0
        for chance, many, rows, told in random_cases(63, 300, 4):
            sheet = Sheet(many, rows)
            for _ in range(60):
                papers = [self.random_paper(chance, rows, fact, told) for fact in range(many)]
                holds = reference.papers_right(rows, many, reference.facts_in(told), papers)
                self.assertIs(papers_hold(sheet, told, papers), holds, (rows, told, papers))
                if holds:
                    held += 1
                    self.assertEqual([paper[0] for paper in papers], answers(sheet, told))
        self.assertGreater(held, 1000)

    def test_one_paper_changed(self):
        for chance, many, rows, told in random_cases(64, 300, 8):
            sheet = Sheet(many, rows)
            right = papers_of(sheet, told)
            for fact in range(many):
                for _ in range(4):
                    papers = right[:fact] + [self.random_paper(chance, rows, fact, told)] + right[fact + 1:]
                    holds = reference.papers_right(rows, many, reference.facts_in(told), papers)
                    self.assertIs(papers_hold(sheet, told, papers), holds, (rows, told, papers))
                    if holds:
                        self.assertEqual(papers[fact][0], right[fact][0])

    def test_all_papers_of_small_sheets(self):
        for _, many, rows, told in random_cases(65, 40, 2):
            sheet = Sheet(many, rows)
            forms = []
            for fact in range(many):
                own = [row for row, (head, _) in enumerate(rows) if head == fact]
                forms.append([("true", 0, 0, None)] + [("false", turn) for turn in range(4)]
                             + [("true", turn, step, row) for turn in range(4) for step in range(3) for row in own]
                             + [("open", step, row) for step in range(3) for row in own])
            for papers in itertools.product(*forms):
                if papers_hold(sheet, told, list(papers)):
                    self.assertEqual([paper[0] for paper in papers], answers(sheet, told))

    def test_rounds_and_steps_moved_and_stretched(self):
        for chance, many, rows, told in random_cases(66, 200, 8):
            sheet = Sheet(many, rows)
            far = chance.randint(1, 10 ** 20)
            papers = [(paper[0], paper[1] * far) if paper[0] == "false" else
                      ("open", paper[1] * far - 10 ** 30, paper[2]) if paper[0] == "open" else
                      paper if paper[3] is None else ("true", paper[1] * far, paper[2] * far, paper[3])
                      for paper in papers_of(sheet, told)]
            self.assertIs(papers_hold(sheet, told, papers), True)


if __name__ == "__main__":
    unittest.main()
