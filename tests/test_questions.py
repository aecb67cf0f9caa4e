"""Points 81 to 85: a book is asked for one fact."""

import random
import unittest

import reference
from notring.books import read_book, write_book
from notring.errors import NoFact, RingError, TooManyFacts, TooManyRows
from notring.questions import asked_fact
from notring.sorting import Sorting
from notring.written import written_out
from samples import NO_TEXTS, deep, letter_words, random_book

GAME = "\n".join([
    "things a b c", "say move a b", "say move b a", "say move b c", "rule win X if move X Y, not win Y",
    "rule calm if not win a",
])


def ask(text, fact):
    """The answer and the wants, with texts in the place of atoms."""
    answer, wants = asked_fact(read_book(text), tuple(fact.split(" ")))
    return answer, [(" ".join(atom), None if cause is None else " ".join(cause)) for atom, cause in wants]


class Asked(unittest.TestCase):
    def test_a_game(self):
        self.assertEqual(asked_fact(read_book(GAME), ("calm",)), ("true", [
            (("calm",), None), (("win", "a"), ("calm",)), (("win", "b"), ("win", "a")), (("win", "c"), ("win", "b"))]))
        self.assertEqual(ask(GAME, "win a"), ("false", [("win a", None), ("win b", "win a"), ("win c", "win b")]))
        self.assertEqual(ask(GAME, "win c"), ("false", [("win c", None)]))

    def test_an_open_answer(self):
        text = GAME.replace("say move b c\n", "")
        self.assertEqual(ask(text, "win b"), ("open", [("win b", None), ("win a", "win b")]))
        self.assertEqual(ask(text, "calm")[0], "open")

    def test_facts_of_bare_kinds(self):
        self.assertEqual(ask(GAME, "move a b"), ("true", [("move a b", None)]))
        self.assertEqual(ask(GAME, "move a c"), ("false", [("move a c", None)]))

    def test_facts_of_kinds_that_the_book_does_not_have(self):
        self.assertEqual(ask(GAME, "other"), ("false", [("other", None)]))
        self.assertEqual(ask(GAME, "win"), ("false", [("win", None)]))
        self.assertEqual(ask(GAME, "win a b c"), ("false", [("win a b c", None)]))
        self.assertEqual(ask("things a", "p a a a"), ("false", [("p a a a", None)]))

    def test_a_kind_is_a_word_and_the_number_of_its_terms(self):
        # p of one term has a rule, p of two has none: the cond p X X is bare, the cond p X is not.
        text = "things a b\nsay p a a\nrule p X if q X\nrule r X if p X X, p X\nrule q a"
        self.assertEqual(ask(text, "r a"), ("true", [("r a", None), ("p a", "r a"), ("q a", "p a")]))
        self.assertEqual(ask(text, "r b"), ("false", [("r b", None)]))
        self.assertEqual(ask(text, "p a a"), ("true", [("p a a", None)]))

    def test_a_kind_whose_rules_do_not_fit_is_not_bare(self):
        text = "things a b\nsay q b\nrule p if q b\nrule q a if r"
        self.assertEqual(ask(text, "p"), ("true", [("p", None), ("q b", "p")]))
        self.assertEqual(ask(text, "q b"), ("true", [("q b", None)]))

    def test_heads_that_fit(self):
        text = "\n".join(["things a b", "rule p X X if f X", "rule p X Y if g X Y", "rule p a Y if h Y", "rule p b a",
                          "rule f X", "rule g X Y", "rule h X", "rule p X"])
        self.assertEqual(ask(text, "p a a"), ("true", [("p a a", None), ("f a", "p a a"), ("g a a", "p a a"),
                                                       ("h a", "p a a")]))
        self.assertEqual(ask(text, "p a b"), ("true", [("p a b", None), ("g a b", "p a b"), ("h b", "p a b")]))
        self.assertEqual(ask(text, "p b a"), ("true", [("p b a", None), ("g b a", "p b a")]))
        self.assertEqual(ask(text, "p b b"), ("true", [("p b b", None), ("f b", "p b b"), ("g b b", "p b b")]))
        self.assertEqual(ask(text, "p b"), ("true", [("p b", None)]))

    def test_instances_in_the_order_of_the_line(self):
        full = "\nrule f X Y\nrule g X Y"
        self.assertEqual([want for want, _ in ask("things b a\nrule p if f X Y" + full, "p")[1]],
                         ["p", "f b b", "f b a", "f a b", "f a a"])
        self.assertEqual([want for want, _ in ask("things b a\nrule p Z if g Y Z, f X Y" + full, "p a")[1]],
                         ["p a", "g b a", "f b b", "f a b", "g a a", "f b a", "f a a"])
        # The V of a least one stands ahead of its atom.
        self.assertEqual([want for want, _ in ask("things b a\nrule p if first X f Y X, g X Y" + full, "p")[1]],
                         ["p", "f b b", "f b a", "g b b", "f a b", "f a a", "g b a", "g a b", "g a a"])

    def test_wants_go_fact_by_fact_and_cond_by_cond(self):
        text = "things a\nrule p if q, not r\nrule p if s, r\nrule q if t\nrule r if t, u\nrule s\nrule t\nrule u if p"
        self.assertEqual(ask(text, "p")[1], [
            ("p", None), ("q", "p"), ("r", "p"), ("s", "p"), ("t", "q"), ("u", "r")])

    def test_a_fact_that_is_wanted_for_several_has_the_first_cause(self):
        text = "things a b\nrule p if q X\nrule q X if r, p\nrule r if q a"
        self.assertEqual(ask(text, "p")[1], [("p", None), ("q a", "p"), ("q b", "p"), ("r", "q a")])
        self.assertEqual(ask(text, "r")[1], [("r", None), ("q a", "r"), ("p", "q a"), ("q b", "p")])

    def test_counts_and_least_ones_want_all_their_facts(self):
        text = "\n".join(["things b c a", "rule p X if many 2 Y f Y X", "rule q if first Z g Z", "rule f X Y if h X",
                          "rule g X if h X", "say h a", "say h b"])
        self.assertEqual(ask(text, "p c"), ("true", [("p c", None), ("f b c", "p c"), ("f c c", "p c"),
                                                     ("f a c", "p c")]))
        self.assertEqual(ask(text, "q"), ("true", [("q", None), ("g b", "q"), ("g c", "q"), ("g a", "q")]))

    def test_instances_that_are_passed_over_want_nothing(self):
        full = "\nrule f X if h X\nsay e b\nsay h a\nsay h b\nsay h c"
        things = "things a b c\n"
        self.assertEqual(ask(things + "rule p if f X, e X" + full, "p"), ("true", [("p", None), ("f b", "p")]))
        self.assertEqual(ask(things + "rule p if f X, not e X" + full, "p")[1],
                         [("p", None), ("f a", "p"), ("f c", "p")])
        self.assertEqual(ask(things + "rule p if f X, many 1 Y e Y" + full, "p")[1],
                         [("p", None), ("f a", "p"), ("f b", "p"), ("f c", "p")])
        self.assertEqual(ask(things + "rule p if f X, many 2 Y e Y" + full, "p"), ("false", [("p", None)]))
        self.assertEqual(ask(things + "rule p if f X, many 3 Y h Y" + full, "p")[0], "true")
        self.assertEqual(ask(things + "rule p if f X, first X e X" + full, "p")[1], [("p", None), ("f b", "p")])
        self.assertEqual(ask(things + "rule p if f X, first X h X" + full, "p")[1], [("p", None), ("f a", "p")])
        self.assertEqual(ask(things + "rule p if f X, h X, not e X, not none X" + full, "p")[1],
                         [("p", None), ("f a", "p"), ("f c", "p")])

    def test_bare_conds_that_are_met_want_nothing_and_are_left_out(self):
        self.assertEqual(ask("things a\nsay q\nrule p if q, not r", "p"), ("true", [("p", None)]))
        self.assertEqual(ask("things a\nsay q\nrule p if q, not r, not p", "p"), ("open", [("p", None)]))

    def test_said_facts_of_full_kinds_are_told(self):
        self.assertEqual(ask("things a\nsay q\nrule q if q\nrule p if q", "p"), ("true", [("p", None), ("q", "p")]))
        self.assertEqual(ask("things a\nrule q if q\nrule p if q", "p")[0], "false")
        self.assertEqual(ask("things a\nsay p\nrule p if not p", "p"), ("true", [("p", None)]))
        self.assertEqual(ask("things a\nrule p if not p", "p"), ("open", [("p", None)]))

    def test_kinds_that_are_told(self):
        answer, wants = asked_fact(read_book(GAME), ("calm",))
        self.assertEqual((answer.__class__, wants.__class__), (str, list))
        for want in wants:
            self.assertEqual((want.__class__, want[0].__class__), (tuple, tuple))

    def test_the_same_again_and_nothing_is_changed(self):
        book = read_book(GAME)
        first = asked_fact(book, ("win", "a"))
        first[1].clear()
        self.assertEqual(asked_fact(book, ("win", "a")), asked_fact(read_book(GAME), ("win", "a")))
        self.assertEqual(len(asked_fact(book, ("win", "a"))[1]), 3)
        self.assertEqual(write_book(book), write_book(read_book(GAME)))


class Refused(unittest.TestCase):
    def refuse(self, thing, text=GAME):
        book = read_book(text)
        with self.assertRaises(NoFact, msg=repr(thing)) as caught:
            asked_fact(book, thing)
        self.assertIs(caught.exception.__class__, NoFact)
        self.assertEqual(caught.exception.fact, thing)
        self.assertIs(caught.exception.fact.__class__, thing.__class__)

    def test_what_is_no_tuple(self):
        for thing in NO_TEXTS + ["", "calm", "win a", ["win", "a"], ["calm"], {"win": "a"}]:
            if thing != ("a",):
                self.refuse(thing)

    def test_words_that_are_no_names(self):
        for word in ["", "A", "X", "Win", "win a", "abcdefg", "things", "say", "rule", "if", "not", "many", "first",
                     "p1", None, True, 0, 7,
                     ["win"], ("win",), {}, deep("win", 18)]:
            self.refuse((word,))
            self.refuse((word, "a"))

    def test_terms_that_are_no_things_of_the_book(self):
        for term in ["", "d", "A", "X", "win", "a ", "ab", None, True, 0, 1, ["a"], ("a",), {"a": "a"}, deep("a", 18)]:
            self.refuse(("win", term))
            self.refuse(("win", "a", term))
            self.refuse(("win", term, "a", "b"))

    def test_too_short_and_too_long(self):
        self.refuse(())
        self.refuse(("win", "a", "a", "a", "a"))
        self.refuse(("win",) + ("a",) * 40)

    def test_it_goes_ahead_of_all_else(self):
        text = "things a b c d e f\nrule p if q W X, q Y Z\nrule q X Y"
        self.refuse(("p", "g"), text)
        with self.assertRaises(TooManyRows):
            asked_fact(read_book(text), ("p",))


class Bounds(unittest.TestCase):
    def refuse(self, text, fact, kind, count):
        with self.assertRaises(kind, msg=text) as caught:
            ask(text, fact)
        self.assertIs(caught.exception.__class__, kind)
        self.assertEqual(caught.exception.count, count)

    # Of p there are 216 + 4 * 36 = 360 instances, of q there are 36, of r there are 4: 400 together.
    LINES = ["things a b c d e f",
             "rule p if q, r, s X, s Y, s Z"] + ["rule p if s X, s Y"] * 4 + ["rule q if s X, s Y"] + ["rule r"] * 4

    def test_400_instances(self):
        answer, wants = ask("\n".join(self.LINES), "p")
        self.assertEqual(answer, "false")
        # All are passed over, as nothing is said of s; so q and r are not wanted.
        self.assertEqual(wants, [("p", None)])
        answer, wants = ask("\n".join(self.LINES + ["say s a"]), "p")
        self.assertEqual((answer, wants), ("true", [("p", None), ("q", "p"), ("r", "p")]))

    def test_401_instances_at_the_last_wanted_fact(self):
        self.refuse("\n".join(self.LINES + ["say s a", "rule r"]), "p", TooManyRows, 401)
        self.refuse("\n".join(self.LINES + ["say s a", "rule r if s X"]), "p", TooManyRows, 406)
        self.assertEqual(ask("\n".join(self.LINES + ["rule r"]), "p")[1], [("p", None)])

    def test_401_instances_at_the_fact_that_is_asked_for(self):
        self.refuse("\n".join(self.LINES + ["rule p if s X, s Y", "rule p if s X"]), "p", TooManyRows, 402)
        self.refuse("things a b c d e f\nrule p if s W, s X, s Y, s Z", "p", TooManyRows, 1296)
        self.refuse("things a b c d e f\nrule p if s W, s X, s Y, s Z\nrule p\nrule p if s W, s X, s Y, s Z", "p",
                    TooManyRows, 2593)

    def test_variables_of_the_head_and_counted_ones_are_left_out(self):
        text = "things a b c d e f\nrule p W X Y if s Z, many 1 A s A, many 1 B s B"
        self.assertEqual(ask(text, "p a b c"), ("false", [("p a b c", None)]))
        self.refuse(text + "\n" + "\n".join(["rule p W X X if s Y, s Z"] * 12), "p a b b", TooManyRows, 438)

    def test_instances_of_rules_that_do_not_fit_are_not_counted(self):
        text = "things a b c d e f\nrule p a if s X, s Y, s Z\nrule p b if s X, s Y, s Z"
        self.assertEqual(ask(text, "p a"), ("false", [("p a", None)]))
        self.assertEqual(ask(text, "p c"), ("false", [("p c", None)]))

    def test_120_wants(self):
        # p, then 36 of f, 36 of g, 36 of h, and 11 more.
        words = letter_words(12)
        lines = ["things a b c d e f", "rule p if f X Y, g X Y, h X Y"] + ["rule " + word + " X Y" for word in "fgh"]
        lines += ["rule p if " + ", ".join(words[:6]), "rule p if " + ", ".join(words[6:11])] + ["rule " + word
                                                                                                 for word in words]
        answer, wants = ask("\n".join(lines), "p")
        self.assertEqual((answer, len(wants)), ("true", 120))
        self.refuse("\n".join(lines + ["rule p if " + words[11]]), "p", TooManyFacts, 121)
        self.refuse("\n".join(lines + ["rule f f f if p, " + words[11]]), "p", TooManyFacts, 121)
        self.refuse("\n".join(lines + ["rule p if many 1 X l X", "rule l X"]), "p", TooManyFacts, 121)

    def test_what_comes_first_goes(self):
        # The 121st want comes for p itself; the instances of q, which is wanted by p too, would be too many.
        many = "rule q if s W, s X, s Y, s Z"
        text = "things a b c d e f\nrule p if q, f X Y Z\nrule f X Y Z\n" + many
        self.refuse(text, "p", TooManyFacts, 121)
        # Here q comes ahead of the fact for which the 121st want would come.
        text = "things a b c d e f\nrule p if q, r\nrule r if f X Y Z\nrule f X Y Z\n" + many
        self.refuse(text, "p", TooManyRows, 1 + 1296)
        text = "things a b c d e f\nrule p if r, q\nrule r if f X Y Z\nrule f X Y Z\n" + many
        self.refuse(text, "p", TooManyFacts, 121)

    def test_a_book_that_can_not_be_written_out_is_asked(self):
        text = "\n".join(["things a b c d e f", "say e a b", "say e b c", "rule t X Y Z if e X Y, e Y Z",
                          "rule u X Y Z if t X Y Z", "rule v X Y Z if not u X Y Z"])
        self.assertRaises(RingError, written_out, read_book(text))
        self.assertEqual(ask(text, "v a b c"), ("false", [("v a b c", None), ("u a b c", "v a b c"),
                                                          ("t a b c", "u a b c")]))
        self.assertEqual(ask(text, "v a b d")[0], "true")
        text = "things a b c d e f\nsay e a\nrule w W X Y if e Z, e W, not w W W W"
        self.assertRaises(TooManyRows, written_out, read_book(text))
        self.assertEqual(ask(text, "w a b c"), ("open", [("w a b c", None), ("w a a a", "w a b c")]))
        self.assertEqual(ask(text, "w b b c"), ("false", [("w b b c", None)]))


class Whole(unittest.TestCase):
    def test_as_the_reference_has_it(self):
        chance = random.Random(83)
        for _ in range(200):
            text = random_book(chance)
            book = read_book(text)
            names = written_out(book)[0]
            for fact in names + ["p", "q a", "z"]:
                if all(term in book.things for term in fact.split(" ")[1:]):
                    self.assertEqual(ask(text, fact), reference.asked(text, fact), (text, fact))

    def test_refusals_as_the_reference_has_them(self):
        chance = random.Random(84)
        seen = set()
        for _ in range(40):
            lines = ["things a b c d e f"] + ["say e " + one + " " + other for one,
                                              other in ["ab", "bc", "cd", "ef", "fa"]]
            for _ in range(chance.randint(2, 6)):
                conds = chance.sample(["e X Y", "f X Y", "g Y Z", "not f Z X", "many 2 A g A X", "first Y f Y X", "h Z",
                                       "not g X X", "k X Y Z"], 3)
                lines.append("rule " + chance.choice(["f X Y", "g X Y", "h X", "f a X", "k X Y Z", "h Y"]) + " if "
                             + ", ".join(conds))
            text = "\n".join(lines)
            for fact in ["f a b", "h b", "g c c"]:
                expected = reference.asked(text, fact)
                try:
                    told = ask(text, fact)
                except (TooManyRows, TooManyFacts) as error:
                    told = (error.__class__.__name__, error.count)
                self.assertEqual(told, expected, (text, fact))
                seen.add(expected[0])
        self.assertLessEqual({"TooManyRows", "TooManyFacts", "false"}, seen)

    def test_as_the_book_written_out_has_it(self):
        chance = random.Random(85)
        seen = set()
        for _ in range(200):
            text = random_book(chance)
            book = read_book(text)
            names, sheet, told = written_out(book)
            sorting = Sorting(sheet, told)
            for number, name in enumerate(names):
                answer = ask(text, name)[0]
                self.assertEqual(answer, sorting.answer_of(number), (text, name))
                seen.add(answer)
            for fact in ["p", "q", "r", "s a", "p a", "q a a", "other"]:
                if fact not in names and ("a" in book.things or " a" not in fact):
                    self.assertEqual(ask(text, fact)[0], "false", (text, fact))
        self.assertEqual(seen, {"true", "false", "open"})


if __name__ == "__main__":
    unittest.main()
