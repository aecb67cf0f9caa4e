"""Points 91 to 93: a keeper of answers, its puts and drops, and the parts that are worked."""

import random
import unittest

import reference
from notring.errors import NoFact, OldFact
from notring.keeper import Keeper
from notring.rings import parts_of
from notring.sheets import Sheet
from notring.sorting import Sorting
from samples import NO_TEXTS, deep, random_cases

# 1 leans on 0, 2 lacks 1, 3 and 4 lack one another and 3 leans on 2, 5 leans on 4, 6 stands by itself.
ROWS = [(1, [("have", 0)]), (2, [("lack", 1)]), (3, [("lack", 4), ("have", 2)]), (4, [("lack", 3)]), (5, [("have", 4)])]
MANY = 7
NO_WHOLE = [True, False, None, "", "0", [], [0], (), (0,), {}, {0: 0}, deep(0, 20)]


def answers(keeper, many):
    return [keeper.answer_at(fact) for fact in range(many)]


class Working(unittest.TestCase):
    def hold(self, keeper, sheet, told):
        """The keeper answers as the sorting of the whole sheet does."""
        sorting = Sorting(sheet, told)
        self.assertEqual(answers(keeper, sheet.how_many()), [sorting.answer_of(fact)
                                                             for fact in range(sheet.how_many())])
        self.assertEqual((keeper.told_facts(), keeper.true_facts(), keeper.open_facts()),
                         (told, sorting.true_facts(), sorting.open_facts()))

    def test_told_left_out(self):
        sheet = Sheet(MANY, ROWS)
        keeper = Keeper(sheet)
        self.hold(keeper, sheet, 0)
        self.assertEqual(answers(keeper, MANY), ["false", "false", "true", "open", "open", "open", "false"])

    def test_told_handed_in(self):
        sheet = Sheet(MANY, ROWS)
        self.hold(Keeper(sheet, 0b0000001), sheet, 0b0000001)
        self.hold(Keeper(sheet, 0b1001000), sheet, 0b1001000)

    def test_a_sheet_without_facts(self):
        keeper = Keeper(Sheet(0, []))
        self.assertEqual((keeper.told_facts(), keeper.true_facts(), keeper.open_facts(), keeper.parts_list()),
                         (0, 0, 0, []))
        self.assertRaises(NoFact, keeper.put, 0)

    def test_the_parts_that_are_worked(self):
        sheet = Sheet(MANY, ROWS)
        keeper = Keeper(sheet)
        self.assertEqual(keeper.parts_list(), [(0,), (1,), (2,), (3, 4), (5,), (6,)])
        self.assertEqual(keeper.put(0), [0, 1, 2, 3, 4])
        self.hold(keeper, sheet, 0b0000001)
        self.assertEqual(keeper.put(6), [5])
        self.hold(keeper, sheet, 0b1000001)
        self.assertEqual(keeper.drop(0), [0, 1, 2, 3, 4])
        self.hold(keeper, sheet, 0b1000000)
        self.assertEqual(keeper.drop(6), [5])
        self.hold(keeper, sheet, 0)

    def test_a_part_whose_answers_stay_stops_the_work(self):
        sheet = Sheet(MANY, ROWS)
        keeper = Keeper(sheet)
        # Fact 2 is true by its row already: it is put like any other, and nothing else changes.
        self.assertEqual(keeper.put(2), [2])
        self.assertEqual(keeper.put(0), [0, 1, 2])
        self.hold(keeper, sheet, 0b0000101)
        self.assertEqual(keeper.drop(2), [2, 3, 4])
        self.hold(keeper, sheet, 0b0000001)

    def test_parts_between_may_be_left_out(self):
        # 1 leans on 0, 2 on nothing, 3 on 1; the parts come as 0, 1, 2, 3.
        sheet = Sheet(4, [(1, [("have", 0)]), (3, [("have", 1)])])
        keeper = Keeper(sheet)
        self.assertEqual(keeper.put(0), [0, 1, 3])
        self.assertEqual(keeper.put(2), [2])
        self.assertEqual(keeper.drop(0), [0, 1, 3])

    def test_only_the_facts_whose_answer_is_another_one_count(self):
        # 0 and 1 are one part; 2 leans on 0 alone, which stays as it is when 1 is put.
        rows = [(0, [("have", 1), ("have", 4)]), (1, [("have", 0)]), (2, [("have", 0)]), (3, [("have", 1)])]
        sheet = Sheet(5, rows)
        keeper = Keeper(sheet)
        self.assertEqual(keeper.parts_list(), [(4,), (0, 1), (2,), (3,)])
        self.assertEqual(keeper.put(1), [1, 3])
        self.hold(keeper, sheet, 0b00010)
        self.assertEqual(keeper.put(4), [0, 1, 2])
        self.hold(keeper, sheet, 0b10010)

    def test_from_open_to_true_and_to_false_is_another_answer(self):
        rows = [(0, [("lack", 1)]), (1, [("lack", 0)]), (2, [("have", 0)]), (3, [("lack", 1)])]
        sheet = Sheet(4, rows)
        keeper = Keeper(sheet)
        self.assertEqual(answers(keeper, 4), ["open"] * 4)
        self.assertEqual(keeper.put(0), [0, 1, 2])
        self.assertEqual(answers(keeper, 4), ["true", "false", "true", "true"])
        self.assertEqual(keeper.drop(0), [0, 1, 2])
        self.assertEqual(answers(keeper, 4), ["open"] * 4)
        self.assertEqual(keeper.put(1), [0, 1, 2])
        self.assertEqual(answers(keeper, 4), ["false", "true", "false", "false"])

    def test_a_leaning_that_brings_nothing_is_worked_all_the_same(self):
        # The some can never be met, but the fact leans on what is counted in it.
        sheet = Sheet(3, [(2, [("some", 6, (0, 1))])])
        keeper = Keeper(sheet)
        self.assertEqual(keeper.put(1), [1, 2])
        # Behind its place a lead leans on nothing.
        sheet = Sheet(3, [(2, [("lead", (0, 1), 0)])])
        keeper = Keeper(sheet)
        self.assertEqual((keeper.put(1), keeper.put(0)), ([1], [0, 2]))

    def test_a_long_chain(self):
        rows = [(fact, [("lack", fact - 1)]) for fact in range(1, 120)]
        sheet = Sheet(120, rows)
        keeper = Keeper(sheet)
        self.assertEqual(keeper.put(0), list(range(120)))
        self.hold(keeper, sheet, 1)
        # At first fact 60 is false where 0 is told and true where it is not.
        self.assertEqual(keeper.put(60), [60])
        self.assertEqual(keeper.drop(0), list(range(61)))
        self.hold(keeper, sheet, 1 << 60)

    def test_rows_of_changes(self):
        for chance, many, rows, told in random_cases(93, 150, 9):
            if many == 0:
                continue
            sheet = Sheet(many, rows)
            keeper = Keeper(sheet, told)
            self.hold(keeper, sheet, told)
            for _ in range(12):
                fact = chance.randrange(many)
                before = answers(keeper, many)
                if told >> fact & 1:
                    worked = keeper.drop(fact)
                else:
                    worked = keeper.put(fact)
                told ^= 1 << fact
                self.hold(keeper, sheet, told)
                self.assertEqual(worked, self.expected_work(rows, many, fact, before, answers(keeper, many)))

    def expected_work(self, rows, many, fact, before, after):
        """Point 92, by the answers ahead of the deed and behind it."""
        worked = []
        changed = set()
        for number, part in enumerate(reference.parts(rows, many)):
            bases = {other for one in part for other, _ in reference.leaned(rows, one)}
            if fact in part or changed & bases:
                worked.append(number)
                changed |= {one for one in part if before[one] != after[one]}
        return worked

    def test_every_answer_that_changes_lies_in_a_part_that_is_worked(self):
        for chance, many, rows, told in random_cases(92, 100, 9):
            for fact in range(many):
                keeper = Keeper(Sheet(many, rows), told)
                before = answers(keeper, many)
                worked = keeper.drop(fact) if told >> fact & 1 else keeper.put(fact)
                parts = keeper.parts_list()
                self.assertEqual(worked, sorted(set(worked)))
                within = {one for number in worked for one in parts[number]}
                self.assertLessEqual({one for one in range(many) if before[one] != keeper.answer_at(one)}, within)
                self.assertIn(fact, within)


class Refused(unittest.TestCase):
    def refuse(self, ask, thing, kind):
        with self.assertRaises(kind, msg=repr(thing)) as caught:
            ask(thing)
        self.assertIs(caught.exception.__class__, kind)
        self.assertEqual(caught.exception.fact, thing)
        self.assertIs(caught.exception.fact.__class__, thing.__class__)

    def state(self, keeper):
        return (keeper.told_facts(), keeper.true_facts(), keeper.open_facts(), answers(keeper, MANY),
                keeper.parts_list())

    def test_what_is_no_number_of_a_fact(self):
        keeper = Keeper(Sheet(MANY, ROWS), 0b1000001)
        before = self.state(keeper)
        for thing in [-1, -7, 7, 8, 120, 10 ** 99, -(10 ** 99)] + NO_WHOLE:
            for ask in (keeper.put, keeper.drop, keeper.answer_at):
                self.refuse(ask, thing, NoFact)
        for thing in NO_TEXTS:
            if thing.__class__ is not int or not 0 <= thing < MANY:
                for ask in (keeper.put, keeper.drop, keeper.answer_at):
                    self.refuse(ask, thing, NoFact)
        self.assertEqual(self.state(keeper), before)

    def test_a_fact_that_is_told_is_not_put(self):
        keeper = Keeper(Sheet(MANY, ROWS), 0b1000001)
        before = self.state(keeper)
        self.refuse(keeper.put, 0, OldFact)
        self.refuse(keeper.put, 6, OldFact)
        self.assertEqual(self.state(keeper), before)
        keeper.put(1)
        before = self.state(keeper)
        self.refuse(keeper.put, 1, OldFact)
        self.assertEqual(self.state(keeper), before)

    def test_a_fact_that_is_not_told_is_not_dropped(self):
        keeper = Keeper(Sheet(MANY, ROWS), 0b1000001)
        before = self.state(keeper)
        for fact in [1, 2, 3, 4, 5]:
            self.refuse(keeper.drop, fact, NoFact)
        self.assertEqual(self.state(keeper), before)
        self.assertEqual(keeper.answer_at(1), "true")
        keeper.drop(6)
        self.refuse(keeper.drop, 6, NoFact)

    def test_what_is_handed_in_is_not_changed(self):
        thing = [0, {"a": [1]}]
        keeper = Keeper(Sheet(MANY, ROWS))
        for ask in (keeper.put, keeper.drop, keeper.answer_at):
            self.refuse(ask, thing, NoFact)
        self.assertEqual(thing, [0, {"a": [1]}])


class Apart(unittest.TestCase):
    def test_a_keeper_beside_another_one_of_the_same_sheet(self):
        sheet = Sheet(MANY, ROWS)
        one = Keeper(sheet)
        other = Keeper(sheet)
        third = Keeper(sheet, 1)
        one.put(0)
        self.assertEqual(answers(one, MANY), answers(third, MANY))
        self.assertEqual((other.told_facts(), other.answer_at(0), other.answer_at(1)), (0, "false", "false"))
        third.drop(0)
        self.assertEqual(one.told_facts(), 1)
        self.assertEqual(answers(other, MANY), answers(third, MANY))

    def test_lists_that_were_told_are_the_askers_own(self):
        sheet = Sheet(MANY, ROWS)
        keeper = Keeper(sheet)
        keeper.parts_list().clear()
        keeper.put(0).clear()
        self.assertEqual(keeper.parts_list(), parts_of(sheet))
        self.assertEqual(keeper.drop(0), [0, 1, 2, 3, 4])

    def test_rows_that_were_handed_in_are_changed_afterwards(self):
        rows = [(1, [("have", 0)])]
        sheet = Sheet(2, rows)
        keeper = Keeper(sheet)
        rows[0][1].append(("lack", 0))
        rows.clear()
        self.assertEqual(keeper.put(0), [0, 1])
        self.assertEqual(keeper.answer_at(1), "true")

    def test_the_same_told_again_gives_the_same(self):
        chance = random.Random(94)
        for _, many, rows, told in random_cases(95, 60, 8):
            facts = [chance.randrange(many) for _ in range(10)] if many else []
            keepers = [Keeper(Sheet(many, rows), told), Keeper(Sheet(many, rows), told)]
            for fact in facts:
                worked = [keeper.drop(fact) if keeper.told_facts() >> fact & 1 else keeper.put(fact)
                          for keeper in keepers]
                self.assertEqual(worked[0], worked[1])
            self.assertEqual(answers(keepers[0], many), answers(keepers[1], many))


if __name__ == "__main__":
    unittest.main()
