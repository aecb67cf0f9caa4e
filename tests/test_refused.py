"""Points 5, 12 to 15: texts that are no books, and the line that is told of them."""

import unittest

from notring.books import read_book, write_book
from notring.errors import BadLine
from samples import NO_TEXTS, letter_words

KEPT = ["things", "say", "rule", "if", "not", "many", "first"]


class Refusals(unittest.TestCase):
    def refuse(self, text, line):
        with self.assertRaises(BadLine, msg=repr(text)) as caught:
            read_book(text)
        self.assertIs(caught.exception.__class__, BadLine)
        self.assertEqual(caught.exception.line, line, repr(text))
        self.assertIs(caught.exception.line.__class__, int)

    def refuse_line(self, line):
        """The line is wrong wherever it stands: alone, behind right lines, ahead of right and wrong ones."""
        self.refuse("things a b\n" + line, 2)
        self.refuse("things a b\nsay fine a\nrule fine X if good X\n" + line, 4)
        self.refuse("things a b\nsay fine a\n" + line + "\nsay good", 3)
        self.refuse("things a b\nrule fine\n" + line + "\n\nsay\nrule", 3)

    def accept_line(self, line):
        text = "things a b\n" + line
        self.assertEqual(write_book(read_book(text)), text)


class NoTexts(Refusals):
    def test_what_is_no_text(self):
        for thing in NO_TEXTS:
            self.refuse(thing, 1)

    def test_what_is_handed_in_is_not_changed(self):
        thing = ["things a", {"say": ["p"]}]
        self.refuse(thing, 1)
        self.assertEqual(thing, ["things a", {"say": ["p"]}])


class FirstLines(Refusals):
    def test_wrong_first_lines(self):
        for line in ["", " ", "things", "things ", " things a", "things a ", "things  a", "things a  b", "thing a",
                     "Things a", "THINGS a", "thingsa", "things\ta", "things a\tb", "a", "a b", "things, a",
                     "things a, b", "things a,", "say p", "rule p", "say things", "things a things b"]:
            self.refuse(line, 1)
            self.refuse(line + "\nthings a\nsay p a", 1)

    def test_things_that_are_no_names(self):
        for word in KEPT + ["A", "X", "AB", "aB", "abcdefg", "a1", "1", "a-b", "a_b", "a.", "/"]:
            self.refuse("things " + word, 1)
            self.refuse("things a " + word, 1)

    def test_a_thing_twice(self):
        for names in ["a a", "a b a", "a b c d e a", "ab ab", "a b c c"]:
            self.refuse("things " + names, 1)

    def test_seven_things_and_more(self):
        self.refuse("things a b c d e f g", 1)
        self.refuse("things a b c d e f g h i j", 1)
        self.refuse("things a b c d e f a", 1)


class Lines(Refusals):
    def test_lines_that_are_no_such_lines(self):
        for line in ["", " ", "  ", "\t", "a", "p a", "X", "things", "things a", "things a b", "if", "if p", "not p",
                     "many 1 X p X", "first X p X", "Say p", "SAY p", "Rule p", "says p", "rules p", "sayp", "rulep",
                     "say\tp", "rule\tp", " say p", " rule p", "  say p", "\tsay p", "say, p", "rule, p", "/", ",",
                     "#", "say p / say q", "fact p", "a say p"]:
            self.refuse_line(line)

    def test_an_empty_line_at_the_end(self):
        self.refuse("things a\n", 2)
        self.refuse("things a\nsay p\n", 3)
        self.refuse("things a\nsay p\n\n", 3)

    def test_an_empty_line_at_the_start(self):
        self.refuse("\nthings a", 1)

    def test_the_first_wrong_line_is_told(self):
        self.refuse("things a\nsay p\nsay p a\nrule q X\nsay p b\nrule q b\nsay", 5)
        self.refuse("things a a\nsay\nrule", 1)
        self.refuse("things a\nrule\nsay", 2)
        self.refuse("things a\nsay\nrule", 2)

    def test_a_wrong_line_far_down(self):
        lines = ["things a"] + ["say " + word for word in letter_words(60)] + ["rule p"] * 30
        self.refuse("\n".join(lines + ["rule X"]), 92)
        self.refuse("\n".join(lines + [""] * 900), 92)


class Says(Refusals):
    def test_wrong_words_and_terms(self):
        for line in ["say", "say ", "say p ", "say  p", "say p  a", "say p a ", "say p a b a b", "say p a a a a",
                     "say P", "say X a", "say p X", "say p a X", "say p c", "say p a c", "say p p", "say p,",
                     "say p a,",
                     "say p, a", "say p a, b", "say p, say q", "say p a, q b", "say p\ta", "say p if q", "say not p",
                     "say abcdefg", "say p1", "say 1", "say p 1", "say p a if", "say say p", "say rule p"]:
            self.refuse_line(line)

    def test_kept_words(self):
        for word in KEPT:
            self.refuse_line("say " + word)
            self.refuse_line("say p " + word)
            self.refuse_line("say p a " + word)

    def test_a_kept_word_is_no_thing_where_a_name_like_it_is(self):
        self.refuse("things a man\nsay p many", 2)

    def test_a_fact_twice(self):
        self.refuse("things a\nsay p\nsay p", 3)
        self.refuse("things a b\nsay p a b\nsay p b a\nrule p a b\nsay p a\nsay p a b\nsay", 6)

    def test_the_61st_fact(self):
        says = ["say " + word for word in letter_words(61)]
        self.refuse("\n".join(["things a"] + says), 62)
        self.refuse("\n".join(["things a", "rule p"] + says + ["rule"]), 63)
        self.refuse("\n".join(["things a"] + says[:60] + ["rule p", "rule q", says[60]]), 64)

    def test_the_61st_fact_of_few_words(self):
        words = [word + " " + one + " " + other for word in "pq" for one in "abcdef" for other in "abcdef"]
        says = ["say " + word for word in words]
        self.refuse("\n".join(["things a b c d e f"] + says), 62)
        self.assertEqual(len(read_book("\n".join(["things a b c d e f"] + says[:60])).said), 60)


class Heads(Refusals):
    def test_wrong_words_and_terms(self):
        for line in ["rule", "rule ", "rule p ", "rule  p", "rule p  a", "rule p a ", "rule p a b X Y", "rule P",
                     "rule X", "rule X a", "rule p c", "rule p X c", "rule p p", "rule p XY", "rule p,", "rule p X,",
                     "rule p, q", "rule p X, Y", "rule p\tX", "rule abcdefg", "rule p1", "rule p 1", "rule rule p",
                     "rule not p", "rule many 1 X p X", "rule first X p X", "rule p 1 X q X"]:
            self.refuse_line(line)

    def test_kept_words(self):
        for word in KEPT:
            self.refuse_line("rule " + word)
            self.refuse_line("rule p " + word)
            self.refuse_line("rule p X " + word)
            self.refuse_line("rule " + word + " if q")
            self.refuse_line("rule p " + word + " if q")

    def test_the_if(self):
        for line in ["rule if", "rule if p", "rule p if", "rule p if ", "rule p if  ", "rule  if p", "rule p  if q",
                     "rule p if  q", "rule p if q ", "rule p if if q", "rule p if q if r", "rule p if q if",
                     "rule p if q, if r", "rule p, if q", "rule p if, q", "rule p ,if q", "rule p If q", "rule p IF q",
                     "rule p\tif q", "rule p if\tq", "rule pif q", "rule p ifq", "rule p if if",
                     "rule p if q if r if s",
                     "if p rule q", "rule p X if q X if"]:
            self.refuse_line(line)

    def test_the_31st_rule(self):
        rules = ["rule " + word + " X if q X" for word in letter_words(31)]
        self.refuse("\n".join(["things a"] + rules), 32)
        self.refuse("\n".join(["things a"] + ["rule p"] * 31), 32)
        self.refuse("\n".join(["things a"] + rules[:30] + ["say p", "say q", rules[30], "say r"]), 34)


class Conds(Refusals):
    def test_commas_out_of_place(self):
        for conds in [",", ", ", ", q", "q,", "q, ", "q,r", "q ,r", "q , r", "q,  r", "q,, r", "q, , r", "q, r,",
                      "q, r, ",
                      "q;r", "q; r", ",q", "q X,r X", "q X ,r X", "q X, , r X", "q, X", "q X, Y", "not, q", "not q,",
                      "many, 1 X q X", "many 1, X q X", "many 1 X, q X", "first, X q X", "first X, q X", "q,\tr"]:
            self.refuse_line("rule p if " + conds)

    def test_a_second_cond_is_wrong_like_a_first_one(self):
        for cond in ["", " q", "q ", "Q", "q c", "not", "many 1 X q", "first X q a", "say q", "q a b a b"]:
            for conds in [cond, "q, " + cond, cond + ", q", "q, " + cond + ", r X"]:
                self.refuse_line("rule p if " + conds)

    def test_a_seventh_cond(self):
        self.accept_line("rule p if " + ", ".join(["q a"] * 6))
        self.refuse_line("rule p if " + ", ".join(["q a"] * 7))
        self.refuse_line("rule p X if " + ", ".join(["q", "not q", "q X", "not q X", "many 1 Y q Y", "first X q X",
                                                     "q"]))
        self.refuse_line("rule p if " + ", ".join(["q a"] * 40))

    def test_ayes(self):
        for cond in ["Q", "X", "q c", "q XY", "q X Y a b", "q  X", "q q", "abcdefg", "q 1", "1", "q X if"]:
            self.refuse_line("rule p if " + cond)

    def test_nots(self):
        for cond in ["not", "not ", "not  q", "not X", "not not q", "not q c", "not q X Y a b", "not Q", "not q not",
                     "not many 1 X q X", "not first X q X", "many 1 X not q X", "first X not q X", "Not q", "not1 q",
                     "q not r", "not q not r", "not 1 q"]:
            self.refuse_line("rule p if " + cond)

    def test_kept_words(self):
        for word in KEPT:
            for cond in [word, "q " + word, "q X " + word, "not " + word, "not q " + word, "many 1 X " + word + " X",
                         "many 1 X q X " + word, "first X " + word + " X", "first X q X " + word,
                         "many 1 " + word + " q " + word, "first " + word + " q " + word]:
                self.refuse_line("rule p if " + cond)

    def test_counts(self):
        for cond in ["many", "many ", "many 1", "many 1 X", "many 1 X ", "many 1 X X", "many X q X", "many 1 q X",
                     "many q X", "many 1 X q", "many 1 X q Y", "many 1 X q a", "many 1 a q a", "many 1 a q X",
                     "many 1 XY q XY", "many 1 X q X X X X", "many 1 X q X c", "many 1 X Q X", "many  1 X q X",
                     "many 1  X q X", "many 1 X  q X", "many 1 X q X ", "many X 1 q X", "many 1 1 X q X",
                     "many 1 X Y q X Y", "many 1 q q q", "Many 1 X q X", "many1 X q X", "1 X q X", "many 1 x q x",
                     "many 1 X many 1 Y q X Y"]:
            self.refuse_line("rule p if " + cond)

    def test_numbers_beyond_one_to_six(self):
        for number in ["0", "7", "8", "9", "10", "12", "123456", "66", "01", "1.", "1.0", "-1", "+1", "a", "A", "",
                       "one",
                       "1e0", "0x1", "1_", "1_1", "\t1", "I", "99999999999999999999"]:
            self.refuse_line("rule p if many " + number + " X q X")

    def test_figures_of_other_scripts(self):
        for number in ["\u0661", "\uff11", "\u00b2"]:
            self.refuse_line("rule p if many " + number + " X q X")

    def test_least_ones(self):
        for cond in ["first", "first ", "first X", "first X ", "first X X", "first q X", "first X q", "first X q Y",
                     "first X q a", "first a q a", "first a q X", "first XY q XY", "first X q X X X X", "first X q X c",
                     "first X Q X", "first  X q X", "first X  q X", "first X q X ", "first 1 X q X", "first X Y q X Y",
                     "first q q q", "First X q X", "firstX q X", "first x q x", "first X first Y q X Y"]:
            self.refuse_line("rule p if " + cond)

    def test_a_counted_variable_elsewhere_in_the_rule(self):
        for line in ["rule p X if many 1 X q X", "rule p a X if q, many 1 X q X", "rule p if q X, many 1 X q X",
                     "rule p if many 1 X q X, q X", "rule p if many 1 X q X, not q X",
                     "rule p if not q a X, many 1 X q X",
                     "rule p if many 1 X q X, first X q X", "rule p if first X q X, many 1 X q X",
                     "rule p if first Y q X Y, many 1 X q X", "rule p if many 1 X q X, many 1 X q X",
                     "rule p if many 1 X q X, many 2 X r X", "rule p if many 1 X q X Y, many 1 Y q Y",
                     "rule p if many 1 Y q Y, many 1 X q X Y", "rule p if many 1 X q X Y, many 1 Y q X Y",
                     "rule p if many 1 X q X, r, r, r, r, q X"]:
            self.refuse_line(line)

    def test_a_fifth_variable(self):
        for line in ["rule p V W X if q Y Z", "rule p if q V W X, q Y Z", "rule p if q V W X, not q Y Z",
                     "rule p V if q W, not q X, first Y q Y, first Z q Z", "rule p if first V q V W X, q Y, q Z",
                     "rule p V if q W, q X, q Y, q Z", "rule p V W X if many 1 A q A Y Z",
                     "rule p if q V W X, many 1 A q Y A, many 1 B q Z B", "rule p A B C if q D E F"]:
            self.refuse_line(line)

    def test_four_variables_beside_counted_ones_are_right(self):
        self.accept_line("rule p V W X if many 1 A q A Y V, many 1 B q B, not q V W X, first Y q Y")


if __name__ == "__main__":
    unittest.main()
