"""Points 2 and 11: what is a name, and what is a variable."""

import string
import unittest

from notring.words import is_name, is_variable
from samples import NO_TEXTS

KEPT = ["things", "say", "rule", "if", "not", "many", "first"]
SIGNS = [chr(code) for code in range(32, 127) if chr(code) != chr(37)] + ["\n", "\t"]


class Names(unittest.TestCase):
    def test_names(self):
        for text in ["a", "z", "m", "win", "move", "abcde", "abcdef", "zzzzzz", "aaaaaa", "on", "as"]:
            self.assertIs(is_name(text), True, text)

    def test_each_small_letter_is_a_name_and_stands_in_names(self):
        for letter in string.ascii_lowercase:
            for text in [letter, letter * 6, "a" + letter, letter + "b"]:
                self.assertIs(is_name(text), True, text)

    def test_too_short_and_too_long(self):
        for text in ["", "abcdefg", "a" * 7, "a" * 8, "a" * 100, "thingss", string.ascii_lowercase]:
            self.assertIs(is_name(text), False, text)

    def test_kept_words(self):
        for word in KEPT:
            self.assertIs(is_name(word), False, word)

    def test_words_that_are_nearly_kept(self):
        for word in ["thing", "hings", "says", "sa", "ay", "rules", "rul", "ifs", "i", "f", "nots", "no", "ot",
                     "manys", "man", "any", "firsts", "firs", "irst", "aye", "have", "lack", "some", "lead"]:
            self.assertIs(is_name(word), True, word)

    def test_every_other_sign_spoils_a_name(self):
        for sign in SIGNS:
            if sign not in string.ascii_lowercase:
                for text in [sign, "a" + sign, sign + "a", "a" + sign + "b", sign * 6]:
                    self.assertIs(is_name(text), False, repr(text))

    def test_letters_beyond_a_to_z(self):
        for text in ["\u00e9", "\u00df", "a\u00e4", "\u03b1", "\u0430", "\uff41", "\u00aa"]:
            self.assertIs(is_name(text), False, ascii(text))

    def test_other_kinds_are_no_names(self):
        for thing in NO_TEXTS:
            self.assertIs(is_name(thing), False, repr(thing))


class Variables(unittest.TestCase):
    def test_each_capital_is_a_variable(self):
        for letter in string.ascii_uppercase:
            self.assertIs(is_variable(letter), True, letter)

    def test_every_other_sign_is_none(self):
        for sign in SIGNS:
            if sign not in string.ascii_uppercase:
                self.assertIs(is_variable(sign), False, repr(sign))

    def test_none_and_several_capitals(self):
        for text in ["", "AB", "AA", "XYZ", "YZ", string.ascii_uppercase, "Ab", "aB", "A ", " A", "A\n", "\nA", "X1"]:
            self.assertIs(is_variable(text), False, repr(text))

    def test_letters_beyond_a_to_z(self):
        for text in ["\u00c9", "\u0391", "\u0410", "\uff21"]:
            self.assertIs(is_variable(text), False, ascii(text))

    def test_other_kinds_are_no_variables(self):
        for thing in NO_TEXTS:
            self.assertIs(is_variable(thing), False, repr(thing))

    def test_nothing_is_both(self):
        for text in ["a", "A", "win", "W"]:
            self.assertNotEqual(is_name(text), is_variable(text))


class Unchanged(unittest.TestCase):
    def test_what_is_handed_in_is_not_changed(self):
        thing = ["a", {"b": ["C"]}]
        for ask in (is_name, is_variable):
            self.assertIs(ask(thing), False)
        self.assertEqual(thing, ["a", {"b": ["C"]}])


if __name__ == "__main__":
    unittest.main()
