"""Points 24 and 25: a book written out as a sheet."""

import random
import unittest

import reference
from notring.books import read_book, write_book
from notring.errors import TooManyFacts, TooManyRows
from notring.sheets import Sheet
from notring.written import written_out
from samples import letter_words, random_book


def told(text):
    """Names, rows and the set of what is said, of the book of this text."""
    names, sheet, said = written_out(read_book(text))
    assert sheet.how_many() == len(names)
    return names, sheet.row_list(), said


def texts(text):
    """The rows with the texts of facts in the place of their numbers, and the texts of what is said."""
    names, rows, said = told(text)

    def named(cond):
        if cond[0] == "some":
            return cond[:2] + (tuple(names[fact] for fact in cond[2]),)
        if cond[0] == "lead":
            return ("lead", tuple(names[fact] for fact in cond[1]), cond[2])
        return (cond[0], names[cond[1]])

    return [(names[head], [named(cond) for cond in conds]) for head, conds in rows], \
        [names[fact] for fact in sorted(reference.facts_in(said))]


class Written(unittest.TestCase):
    def test_a_game(self):
        names, sheet, said = written_out(read_book("\n".join([
            "things a b", "rule win X if move X Y, not win Y", "say move b a", "say move a a"])))
        self.assertEqual(names, ["move a a", "move a b", "move b a", "move b b", "win a", "win b"])
        self.assertIsInstance(sheet, Sheet)
        self.assertEqual(sheet.how_many(), 6)
        self.assertEqual(sheet.row_list(), [
            (4, (("have", 0), ("lack", 4))), (4, (("have", 1), ("lack", 5))),
            (5, (("have", 2), ("lack", 4))), (5, (("have", 3), ("lack", 5)))])
        self.assertEqual(said, 0b000101)

    def test_things_alone(self):
        names, sheet, said = written_out(read_book("things a b c"))
        self.assertEqual((names, sheet.how_many(), sheet.row_list(), said), ([], 0, [], 0))

    def test_said_facts_alone(self):
        self.assertEqual(told("things a b\nsay q b\nsay p\nsay q a"), (["p", "q a", "q b"], [], 0b111))

    def test_rules_alone(self):
        self.assertEqual(told("things a\nrule p\nrule q X"), (["p", "q a"], [(0, ()), (1, ())], 0))

    def test_names_in_the_order_of_texts(self):
        lines = ["say b", "say ab", "say a b", "say a", "say a b b", "say a a", "say a ab", "say aa", "say aa b",
                 "say a c"]
        names, _, said = told("things b a ab c\n" + "\n".join(lines))
        self.assertEqual(names, ["a", "a a", "a ab", "a b", "a b b", "a c", "aa", "aa b", "ab", "b"])
        self.assertEqual(said, (1 << 10) - 1)

    def test_rows_come_rule_by_rule(self):
        rows, said = texts("things b a\nrule z X\nsay y\nrule y\nrule a X if z X")
        self.assertEqual(rows, [("z b", []), ("z a", []), ("y", []), ("a b", [("have", "z b")]),
                                ("a a", [("have", "z a")])])
        self.assertEqual(said, ["y"])

    def test_the_first_variable_of_the_line_goes_slowest(self):
        rows, _ = texts("things b a\nrule p Y X")
        self.assertEqual([head for head, _ in rows], ["p b b", "p b a", "p a b", "p a a"])
        rows, _ = texts("things b a\nrule p X if q Y X, r Z")
        self.assertEqual([(head, conds[0][1], conds[1][1]) for head, conds in rows], [
            ("p b", "q b b", "r b"), ("p b", "q b b", "r a"), ("p b", "q a b", "r b"), ("p b", "q a b", "r a"),
            ("p a", "q b a", "r b"), ("p a", "q b a", "r a"), ("p a", "q a a", "r b"), ("p a", "q a a", "r a")])

    def test_a_variable_that_stands_in_a_cond_alone(self):
        rows, _ = texts("things a b\nrule p if q Y X")
        self.assertEqual([conds[0][1] for _, conds in rows], ["q a a", "q a b", "q b a", "q b b"])
        rows, _ = texts("things a b\nrule p if r X, q Y X")
        self.assertEqual([conds[1][1] for _, conds in rows], ["q a a", "q b a", "q a b", "q b b"])

    def test_the_variable_of_a_least_one_stands_ahead_of_its_atom(self):
        rows, _ = texts("things a b\nrule p if first X q Y X")
        self.assertEqual([conds for _, conds in rows], [
            [("lead", ("q a a", "q a b"), 0)], [("lead", ("q b a", "q b b"), 0)],
            [("lead", ("q a a", "q a b"), 1)], [("lead", ("q b a", "q b b"), 1)]])

    def test_the_variable_of_a_least_one_behind_others(self):
        rows, _ = texts("things a b\nrule p if r Y, first X q Y X")
        self.assertEqual([conds for _, conds in rows], [
            [("have", "r a"), ("lead", ("q a a", "q a b"), 0)], [("have", "r a"), ("lead", ("q a a", "q a b"), 1)],
            [("have", "r b"), ("lead", ("q b a", "q b b"), 0)], [("have", "r b"), ("lead", ("q b a", "q b b"), 1)]])

    def test_a_counted_variable_makes_no_instances_and_keeps_its_facts_in_the_order_of_the_things(self):
        rows, _ = texts("things b c a\nrule p X if many 2 Y q X Y")
        self.assertEqual(rows, [
            ("p b", [("some", 2, ("q b b", "q b c", "q b a"))]), ("p c", [("some", 2, ("q c b", "q c c", "q c a"))]),
            ("p a", [("some", 2, ("q a b", "q a c", "q a a"))])])

    def test_a_counted_variable_ahead_of_others_in_the_line(self):
        rows, _ = texts("things a b\nrule p if many 1 Z q Z Y X, r X Y")
        self.assertEqual([conds[1][1] for _, conds in rows], ["r a a", "r b a", "r a b", "r b b"])

    def test_least_ones_put_each_thing_at_all_places_of_the_cond_alone(self):
        rows, _ = texts("things a b\nrule p X if first X q X X Y, r X")
        self.assertEqual(rows[1], ("p a", [("lead", ("q a a b", "q b b b"), 0), ("have", "r a")]))
        self.assertEqual(rows[2], ("p b", [("lead", ("q a a a", "q b b a"), 1), ("have", "r b")]))

    def test_least_ones_of_one_variable_in_two_conds(self):
        rows, _ = texts("things b a\nrule p if first X q X, first X r a X, not q X")
        self.assertEqual([conds for _, conds in rows], [
            [("lead", ("q b", "q a"), 0), ("lead", ("r a b", "r a a"), 0), ("lack", "q b")],
            [("lead", ("q b", "q a"), 1), ("lead", ("r a b", "r a a"), 1), ("lack", "q a")]])

    def test_the_same_variable_several_times(self):
        rows, _ = texts("things a b\nrule p X X if q X a X, not r X X, many 1 Y s Y X Y")
        self.assertEqual(rows[1], ("p b b", [("have", "q b a b"), ("lack", "r b b"),
                                             ("some", 1, ("s a b a", "s b b b"))]))

    def test_counts_beyond_the_number_of_things_and_one_thing(self):
        rows, _ = texts("things a\nrule p if many 6 X q X, first Y q Y")
        self.assertEqual(rows, [("p", [("some", 6, ("q a",)), ("lead", ("q a",), 0)])])

    def test_facts_of_conds_are_facts_though_no_row_has_them_as_head(self):
        names, _, said = told("things a b\nrule p if not q X, many 1 Y r Y, first Z s Z")
        self.assertEqual(names, ["p", "q a", "q b", "r a", "r b", "s a", "s b"])
        self.assertEqual(said, 0)

    def test_things_that_are_named_like_words(self):
        self.assertEqual(told("things p q\nrule p X if q X\nsay q p"), (
            ["p p", "p q", "q p", "q q"], [(0, (("have", 2),)), (1, (("have", 3),))], 0b0100))

    def test_random_books_as_the_reference_has_them(self):
        chance = random.Random(24)
        for _ in range(150):
            text = random_book(chance)
            self.assertEqual(told(text), reference.written(text), text)

    def test_the_same_is_told_again_and_nothing_is_changed(self):
        text = "things b a\nsay q a\nrule p X if q Y, not p Y, first Z q Z"
        book = read_book(text)
        names, sheet, said = written_out(book)
        names.clear()
        sheet.row_list().clear()
        again, other, same = written_out(book)
        self.assertEqual((again, other.row_list(), same), reference.written(text))
        self.assertEqual((other.row_list(), same), (sheet.row_list(), said))
        self.assertEqual(write_book(book), text)


class Bounds(unittest.TestCase):
    def refuse(self, text, kind, count):
        with self.assertRaises(kind, msg=text) as caught:
            written_out(read_book(text))
        self.assertIs(caught.exception.__class__, kind)
        self.assertEqual(caught.exception.count, count, text)

    def test_400_rows(self):
        # 216 + 5 * 36 + 4: all but the last four of three or two variables over six things.
        lines = ["things a b c d e f", "rule p if q X, q Y, q Z"] + ["rule p if q X, q Y"] * 5 + ["rule p"] * 4
        names, rows, _ = told("\n".join(lines))
        self.assertEqual((len(names), len(rows)), (7, 400))
        self.refuse("\n".join(lines + ["rule p"]), TooManyRows, 401)
        self.refuse("\n".join(lines + ["rule q X"]), TooManyRows, 406)

    def test_401_rows_and_more(self):
        self.refuse("things a b c d e f\nrule p W X Y if q Z", TooManyRows, 1296)
        self.refuse("\n".join(["things a b c d e f"] + ["rule p W X Y if q Z"] * 30), TooManyRows, 38880)
        self.refuse("things a b c d e\nrule p X Y if q Z W", TooManyRows, 625)

    def test_counted_variables_do_not_make_more_rows(self):
        text = "things a b c d e f\nrule p X Y if many 1 A q A, many 2 B q B, q Z"
        self.assertEqual(len(told(text)[1]), 216)

    def test_120_facts(self):
        lines = ["things a b c d e f", "rule p X Y", "rule q X Y", "rule r X Y"] + ["say " + word
                                                                                    for word in letter_words(12)]
        names, rows, said = told("\n".join(lines))
        self.assertEqual((len(names), len(rows), len(reference.facts_in(said))), (120, 108, 12))
        self.refuse("\n".join(lines + ["say zz"]), TooManyFacts, 121)
        self.refuse("\n".join(lines + ["rule zz X"]), TooManyFacts, 126)
        self.refuse("\n".join(lines + ["rule p a b if many 1 X zz X b"]), TooManyFacts, 126)

    def test_many_facts(self):
        self.refuse("things a b c d e f\nrule p X Y Z", TooManyFacts, 216)
        self.refuse("things a b c d e f\nrule p X Y Z if q Y Z X", TooManyFacts, 432)

    def test_rows_go_ahead_of_facts(self):
        self.refuse("things a b c d e f\nrule p X Y Z\nrule q X Y Z", TooManyRows, 432)
        self.refuse("things a b c d e f\nrule p X Y Z\nrule q X Y\nrule q Y X\nrule q a X\n" + "\n".join(
            ["rule r X Y"] * 3), TooManyRows, 402)


if __name__ == "__main__":
    unittest.main()
