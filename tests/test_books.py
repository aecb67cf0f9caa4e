"""Points 4, 12 to 16: books that are read, and books that are written."""

import unittest

from notring.books import Book, read_book, write_book
from samples import letter_words

GAME = "\n".join([
    "things a b c",
    "rule win X if move X Y, not win Y",
    "say move a b",
    "rule busy X if many 2 Y move X Y, first Z rank Z X",
    "say rain",
    "rule odd",
    "say link a b c",
])

WRITTEN_GAME = "\n".join([
    "things a b c",
    "say move a b",
    "say rain",
    "say link a b c",
    "rule win X if move X Y, not win Y",
    "rule busy X if many 2 Y move X Y, first Z rank Z X",
    "rule odd",
])


def fields(book):
    return (book.things, book.said, book.rules)


def rule_of(line, things="a b"):
    """The one rule of a book with this line."""
    rules = read_book("things " + things + "\n" + line).rules
    assert len(rules) == 1
    return rules[0]


class Reading(unittest.TestCase):
    def test_a_book_of_all_kinds_of_lines(self):
        book = read_book(GAME)
        self.assertIsInstance(book, Book)
        self.assertEqual(book.things, ("a", "b", "c"))
        self.assertEqual(book.said, (("move", "a", "b"), ("rain",), ("link", "a", "b", "c")))
        self.assertEqual(book.rules, (
            (("win", "X"), (("aye", ("move", "X", "Y")), ("not", ("win", "Y")))),
            (("busy", "X"), (("many", 2, "Y", ("move", "X", "Y")), ("first", "Z", ("rank", "Z", "X")))),
            (("odd",), ()),
        ))

    def test_things_alone(self):
        self.assertEqual(fields(read_book("things a")), (("a",), (), ()))

    def test_one_to_six_things_in_their_order(self):
        names = ["zed", "a", "y", "b", "abcdef", "c"]
        for many in range(1, 7):
            book = read_book("things " + " ".join(names[:many]))
            self.assertEqual(fields(book), (tuple(names[:many]), (), ()))

    def test_all_that_is_told_is_made_of_tuples(self):
        book = read_book(GAME)
        for part in fields(book):
            self.assertIs(part.__class__, tuple)
        for fact in book.said:
            self.assertIs(fact.__class__, tuple)
        for rule in book.rules:
            self.assertEqual([part.__class__ for part in rule], [tuple, tuple])
            for cond in rule[1]:
                self.assertEqual([cond.__class__, cond[-1].__class__], [tuple, tuple])

    def test_facts_of_none_to_three_things(self):
        book = read_book("things a b\nsay p\nsay p a\nsay p a a\nsay p b a b\nsay p a b b")
        self.assertEqual(book.said, (("p",), ("p", "a"), ("p", "a", "a"), ("p", "b", "a", "b"), ("p", "a", "b", "b")))

    def test_words_of_facts_and_heads_may_be_like_things(self):
        book = read_book("things a b\nsay a\nsay a a\nsay b a b\nrule a X if b X a, not a, many 1 Y a Y, first X b X")
        self.assertEqual(book.said, (("a",), ("a", "a"), ("b", "a", "b")))
        self.assertEqual(book.rules, ((("a", "X"), (
            ("aye", ("b", "X", "a")), ("not", ("a",)), ("many", 1, "Y", ("a", "Y")), ("first", "X", ("b", "X")),
        )),))

    def test_lines_in_any_order(self):
        book = read_book("things a\nrule p\nsay q\nrule r\nsay o\nrule n\nsay z")
        self.assertEqual(book.said, (("q",), ("o",), ("z",)))
        self.assertEqual(book.rules, ((("p",), ()), (("r",), ()), (("n",), ())))

    def test_a_rule_may_be_told_twice_and_a_said_fact_may_be_a_head(self):
        book = read_book("things a\nsay p\nrule p\nrule p")
        self.assertEqual(fields(book), (("a",), (("p",),), ((("p",), ()), (("p",), ()))))

    def test_sixty_facts_and_thirty_rules(self):
        words = letter_words(60)
        lines = ["things a"] + ["rule " + word for word in words[:30]] + ["say " + word for word in words]
        book = read_book("\n".join(lines))
        self.assertEqual(book.said, tuple([(word,) for word in words]))
        self.assertEqual(book.rules, tuple([((word,), ()) for word in words[:30]]))


class Rules(unittest.TestCase):
    def test_heads_of_none_to_three_terms(self):
        self.assertEqual(rule_of("rule p"), (("p",), ()))
        self.assertEqual(rule_of("rule p a"), (("p", "a"), ()))
        self.assertEqual(rule_of("rule p X b"), (("p", "X", "b"), ()))
        self.assertEqual(rule_of("rule p X X Y"), (("p", "X", "X", "Y"), ()))

    def test_ayes_of_none_to_three_terms(self):
        self.assertEqual(rule_of("rule p if q"), (("p",), (("aye", ("q",)),)))
        self.assertEqual(rule_of("rule p if q a"), (("p",), (("aye", ("q", "a")),)))
        self.assertEqual(rule_of("rule p if q X a"), (("p",), (("aye", ("q", "X", "a")),)))
        self.assertEqual(rule_of("rule p if q X Y a"), (("p",), (("aye", ("q", "X", "Y", "a")),)))

    def test_nots_of_none_to_three_terms(self):
        self.assertEqual(rule_of("rule p if not q"), (("p",), (("not", ("q",)),)))
        self.assertEqual(rule_of("rule p if not q a"), (("p",), (("not", ("q", "a")),)))
        self.assertEqual(rule_of("rule p if not q a X Y"), (("p",), (("not", ("q", "a", "X", "Y")),)))

    def test_counts_with_each_figure(self):
        for number in range(1, 7):
            cond = rule_of("rule p if many " + str(number) + " X q X")[1][0]
            self.assertEqual(cond, ("many", number, "X", ("q", "X")))
            self.assertIs(cond[1].__class__, int)

    def test_the_counted_variable_once_and_more_than_once(self):
        for terms in ["X", "X X", "X X X", "a X", "X Y", "Y X X", "X a X"]:
            cond = rule_of("rule p if many 2 X q " + terms)[1][0]
            self.assertEqual(cond, ("many", 2, "X", ("q",) + tuple(terms.split(" "))))

    def test_least_ones(self):
        for terms in ["X", "X X", "X X X", "a X", "X Y", "Y X X"]:
            cond = rule_of("rule p if first X q " + terms)[1][0]
            self.assertEqual(cond, ("first", "X", ("q",) + tuple(terms.split(" "))))

    def test_the_variable_of_a_least_one_may_stand_elsewhere(self):
        rule = rule_of("rule p X if first X q X, r X, first X r X Y, not q X")
        self.assertEqual(rule, (("p", "X"), (
            ("first", "X", ("q", "X")), ("aye", ("r", "X")), ("first", "X", ("r", "X", "Y")), ("not", ("q", "X")),
        )))

    def test_one_to_six_conds_in_their_order(self):
        texts = ["q X", "not r a", "many 6 Y s X Y", "first Z t Z a", "q X", "not q"]
        conds = (("aye", ("q", "X")), ("not", ("r", "a")), ("many", 6, "Y", ("s", "X", "Y")),
                 ("first", "Z", ("t", "Z", "a")), ("aye", ("q", "X")), ("not", ("q",)))
        for many in range(1, 7):
            self.assertEqual(rule_of("rule p if " + ", ".join(texts[:many])), (("p",), conds[:many]))

    def test_four_variables_in_all_places(self):
        for line in ["rule p W X Y if q Z", "rule p if q W X Y, q Z W X", "rule p W if not q X, first Y q Y Z",
                     "rule p W if q X, q Y, q Z, q W", "rule p if first Z q X Y Z, not q W"]:
            self.assertEqual(write_book(read_book("things a\n" + line)), "things a\n" + line)

    def test_counted_variables_do_not_count_among_the_four(self):
        rule = rule_of("rule p W X Y if many 2 A q A Z W, many 3 B q X B, many 1 C q C, not q W X Y, first Z q Z")
        self.assertEqual([cond[0] for cond in rule[1]], ["many", "many", "many", "not", "first"])

    def test_things_do_not_count_among_the_four(self):
        self.assertEqual(rule_of("rule p W X a if q Y Z b, not q a b"), (
            ("p", "W", "X", "a"), (("aye", ("q", "Y", "Z", "b")), ("not", ("q", "a", "b")))))

    def test_six_counted_variables(self):
        rule = rule_of("rule p if " + ", ".join(["many 1 " + letter + " q " + letter for letter in "ABCDEF"]))
        self.assertEqual([cond[2] for cond in rule[1]], ["A", "B", "C", "D", "E", "F"])

    def test_a_variable_is_not_a_thing_of_the_same_letter(self):
        self.assertEqual(rule_of("rule p a A if q A a"), (("p", "a", "A"), (("aye", ("q", "A", "a")),)))

    def test_variables_of_the_head_alone_and_of_conds_alone(self):
        self.assertEqual(rule_of("rule p X if q Y"), (("p", "X"), (("aye", ("q", "Y")),)))


class Writing(unittest.TestCase):
    def test_things_then_what_is_said_then_rules(self):
        self.assertEqual(write_book(read_book(GAME)), WRITTEN_GAME)

    def test_what_is_read_of_it_is_the_same_book(self):
        book = read_book(GAME)
        self.assertEqual(fields(read_book(write_book(book))), fields(book))

    def test_what_is_written_so_is_written_again(self):
        for text in [WRITTEN_GAME, "things a", "things f e d c b a", "things a\nsay p", "things a\nrule p",
                     "things a b\nsay z\nsay a b a b\nsay a\nrule z\nrule a X b if not z, q\nrule a"]:
            self.assertEqual(write_book(read_book(text)), text)

    def test_each_kind_of_cond(self):
        for cond in ["q", "q X a Y", "not q", "not q a X Y", "many 1 X q X", "many 6 X q X Y X", "first X q X",
                     "first Y q a X Y"]:
            text = "things a\nrule p if " + cond + "\nrule p Z a if r, " + cond
            self.assertEqual(write_book(read_book(text)), text)

    def test_a_book_at_its_bounds(self):
        says = ["say " + word for word in letter_words(60)]
        rules = ["rule p W X Y if q Z, " + ", ".join(["not q W"] * 5)] * 30
        text = "\n".join(["things a b c d e f"] + says + rules)
        self.assertEqual(write_book(read_book(text)), text)

    def test_no_line_feed_at_the_end(self):
        self.assertFalse(write_book(read_book("things a\nsay p")).endswith("\n"))


class Apart(unittest.TestCase):
    def test_a_book_stays_as_it_was_when_another_is_read_or_written(self):
        book = read_book(GAME)
        before = fields(book)
        other = read_book("things z\nsay p z\nrule q X if p X")
        write_book(book)
        write_book(other)
        self.assertEqual(fields(book), before)
        self.assertEqual(fields(other), (("z",), (("p", "z"),), ((("q", "X"), (("aye", ("p", "X")),)),)))

    def test_a_book_stays_as_it_was_when_another_text_is_refused(self):
        book = read_book(GAME)
        before = fields(book)
        self.assertRaises(ValueError, read_book, "things a b c\nsay move a b\nrule p\nsay")
        self.assertEqual(fields(book), before)
        self.assertEqual(fields(read_book(GAME)), before)

    def test_asked_the_same_again_the_same_is_told(self):
        self.assertEqual(fields(read_book(GAME)), fields(read_book(GAME)))
        self.assertIsNot(read_book(GAME), read_book(GAME))
        book = read_book(GAME)
        self.assertEqual(write_book(book), write_book(book))


if __name__ == "__main__":
    unittest.main()
