"""Point 21: the four conds of a sheet."""

import itertools
import unittest

import reference
from notring.conds import Cond, Have, Lack, Lead, Some

CONDS = [
    (Have(0), ("have", 0)), (Have(3), ("have", 3)), (Have(119), ("have", 119)),
    (Lack(0), ("lack", 0)), (Lack(2), ("lack", 2)), (Lack(119), ("lack", 119)),
    (Some(1, (0,)), ("some", 1, (0,))), (Some(2, (3, 1)), ("some", 2, (3, 1))),
    (Some(6, (5, 4, 3, 2, 1, 0)), ("some", 6, (5, 4, 3, 2, 1, 0))), (Some(6, (1, 0)), ("some", 6, (1, 0))),
    (Lead((2,), 0), ("lead", (2,), 0)), (Lead((3, 0, 2), 0), ("lead", (3, 0, 2), 0)),
    (Lead((3, 0, 2), 1), ("lead", (3, 0, 2), 1)), (Lead((3, 0, 2), 2), ("lead", (3, 0, 2), 2)),
    (Lead((5, 4, 3, 2, 1, 0), 5), ("lead", (5, 4, 3, 2, 1, 0), 5)),
]


def pairs_of_sets(many):
    return itertools.product(range(1 << many), repeat=2)


class Shape(unittest.TestCase):
    def test_each_stands_straight_under_cond(self):
        for kind in (Have, Lack, Some, Lead):
            self.assertEqual(kind.__bases__, (Cond,))

    def test_shown(self):
        for cond, told in CONDS:
            self.assertEqual(cond.shown(), told)
            self.assertIs(cond.shown().__class__, tuple)

    def test_fields(self):
        self.assertEqual(Have(4).fact, 4)
        self.assertEqual(Lack(5).fact, 5)
        some = Some(2, (4, 1, 3))
        self.assertEqual((some.number, some.facts), (2, (4, 1, 3)))
        lead = Lead((4, 1, 3), 2)
        self.assertEqual((lead.facts, lead.at), ((4, 1, 3), 2))


class Carried(unittest.TestCase):
    def ask(self, cond, have, may, carried, blocked):
        self.assertIs(cond.carried(have, may), carried, (cond.shown(), have, may))
        self.assertIs(cond.blocked(have, may), blocked, (cond.shown(), have, may))

    def test_have_looks_at_have_to_be_carried_and_at_may_to_be_blocked(self):
        self.ask(Have(1), 0b10, 0b00, True, True)
        self.ask(Have(1), 0b10, 0b10, True, False)
        self.ask(Have(1), 0b01, 0b10, False, False)
        self.ask(Have(1), 0b01, 0b01, False, True)

    def test_lack_looks_at_may_to_be_carried_and_at_have_to_be_blocked(self):
        self.ask(Lack(1), 0b10, 0b00, True, True)
        self.ask(Lack(1), 0b10, 0b10, False, True)
        self.ask(Lack(1), 0b01, 0b10, False, False)
        self.ask(Lack(1), 0b01, 0b01, True, False)

    def test_some(self):
        self.ask(Some(2, (0, 2, 3)), 0b0101, 0b0000, True, True)
        self.ask(Some(2, (0, 2, 3)), 0b0011, 0b1100, False, False)
        self.ask(Some(2, (0, 2, 3)), 0b0010, 0b1010, False, True)

    def test_some_with_each_number_and_each_count(self):
        facts = (7, 2, 5, 0, 4, 9)
        for number in range(1, 7):
            for count in range(7):
                found = reference.bits_of(facts[:count]) | 0b1001000
                self.ask(Some(number, facts), found, 0, count >= number, True)
                self.ask(Some(number, facts), 0, found, False, count < number)

    def test_a_number_beyond_the_length_is_never_carried_and_always_blocked(self):
        for length in range(1, 6):
            for number in range(length + 1, 7):
                cond = Some(number, tuple(range(length)))
                for have, may in itertools.product([0, 1, (1 << 120) - 1], repeat=2):
                    self.ask(cond, have, may, False, True)

    def test_lead_at_its_first_place(self):
        self.ask(Lead((1, 0, 2), 0), 0b010, 0b000, True, True)
        self.ask(Lead((1, 0, 2), 0), 0b010, 0b111, True, False)
        self.ask(Lead((1, 0, 2), 0), 0b101, 0b010, False, False)
        self.ask(Lead((1, 0, 2), 0), 0b101, 0b101, False, True)

    def test_lead_at_a_middle_place(self):
        self.ask(Lead((1, 0, 2), 1), 0b101, 0b101, True, False)
        self.ask(Lead((1, 0, 2), 1), 0b101, 0b111, False, False)
        self.ask(Lead((1, 0, 2), 1), 0b111, 0b101, True, True)
        self.ask(Lead((1, 0, 2), 1), 0b100, 0b101, False, False)
        self.ask(Lead((1, 0, 2), 1), 0b000, 0b110, False, True)

    def test_lead_at_its_last_place(self):
        self.ask(Lead((1, 0, 2), 2), 0b100, 0b100, True, False)
        self.ask(Lead((1, 0, 2), 2), 0b100, 0b101, False, False)
        self.ask(Lead((1, 0, 2), 2), 0b100, 0b110, False, False)
        self.ask(Lead((1, 0, 2), 2), 0b101, 0b100, True, True)
        self.ask(Lead((1, 0, 2), 2), 0b110, 0b100, True, True)

    def test_each_kind_by_all_sets_of_four_facts(self):
        for cond, told in CONDS:
            if all(fact < 4 for fact, _ in cond.leaning()):
                for have, may in pairs_of_sets(4):
                    sets = (reference.facts_in(have), reference.facts_in(may))
                    self.ask(cond, have, may, reference.carried(told, *sets), reference.blocked(told, *sets))

    def test_the_last_fact_of_the_largest_sheet(self):
        last = 1 << 119
        self.ask(Have(119), last, last, True, False)
        self.ask(Have(119), last - 1, last - 1, False, True)
        self.ask(Lack(119), last - 1, last - 1, True, False)
        self.ask(Some(1, (119, 118)), last, 0, True, True)
        self.ask(Lead((118, 119), 1), last, last, True, False)


class Leaning(unittest.TestCase):
    def test_in_the_order_in_which_the_facts_stand(self):
        self.assertEqual(Have(3).leaning(), [(3, False)])
        self.assertEqual(Lack(3).leaning(), [(3, True)])
        self.assertEqual(Some(2, (4, 1, 3)).leaning(), [(4, False), (1, False), (3, False)])
        self.assertEqual(Some(6, (4,)).leaning(), [(4, False)])

    def test_a_lead_leaves_out_what_stands_behind_its_place(self):
        self.assertEqual(Lead((4, 1, 3), 0).leaning(), [(4, False)])
        self.assertEqual(Lead((4, 1, 3), 1).leaning(), [(4, True), (1, False)])
        self.assertEqual(Lead((4, 1, 3), 2).leaning(), [(4, True), (1, True), (3, False)])

    def test_lacks_are_truths(self):
        for cond, told in CONDS:
            self.assertEqual(cond.leaning(), reference.leaning(told))
            for pair in cond.leaning():
                self.assertEqual([pair.__class__, pair[1].__class__], [tuple, bool])

    def test_told_again_when_the_list_was_emptied(self):
        for cond, told in CONDS:
            cond.leaning().clear()
            cond.leaning().append(None)
            self.assertEqual(cond.leaning(), reference.leaning(told))

    def test_asking_changes_nothing(self):
        for cond, told in CONDS:
            cond.carried(5, 3)
            cond.blocked(5, 3)
            self.assertEqual(cond.shown(), told)


if __name__ == "__main__":
    unittest.main()
