"""Points 101 to 105: the desk, its rows, its answers, and what is refused."""

import random
import unittest

from notring.books import read_book, write_book
from notring.desk import Desk
from notring.errors import BadLine, NoFact, NoRow, OldFact, TooManyFacts, TooManyOpen, TooManyRows
from notring.keeper import Keeper
from notring.papers import papers_of
from notring.questions import asked_fact
from notring.rings import parts_of, ring_of
from notring.sorting import Sorting
from notring.worlds import in_worlds, worlds_of
from notring.written import written_out
from samples import NO_TEXTS, letter_words, random_book

GAME = "text things a b c / say move a b / say move b a / rule win X if move X Y, not win Y / say move b c"
SMALL = "text things a b / rule win X if move X Y, not win Y / say move b a / say move a b"
WORDS = ["text", "put", "drop", "book", "answer", "why", "worlds", "in", "rings", "ask"]


def desk_with(*rows):
    desk = Desk()
    for row in rows:
        desk.say(row)
    return desk


class Rows(unittest.TestCase):
    def talk(self, desk, pairs):
        for row, answer in pairs:
            told = desk.say(row)
            self.assertEqual((row, told), (row, answer))
            self.assertIs(told.__class__, str)

    def test_a_small_game_row_by_row(self):
        self.talk(Desk(), [
            (SMALL, "ok 6 4"),
            ("book", "things a b / say move a b / say move b a / rule win X if move X Y, not win Y"),
            ("answer win a", "open"),
            ("answer move a b", "true"),
            ("answer move a a", "false"),
            ("why move a b", "true 0 0 -"),
            ("why move a a", "false 1"),
            ("why win a", "open 1 1"),
            ("why win b", "open 1 2"),
            ("worlds", "move a b, move b a, win a / move a b, move b a, win b"),
            ("in win a", "some"),
            ("in move a b", "all"),
            ("in move b b", "none"),
            ("rings", "move a a: plain / move a b: plain / move b a: plain / move b b: plain / win a, win b: odd"),
            ("ask win a", "open: win a, win b"),
            ("ask move a b", "true: move a b"),
            ("put move b b", "parts 3 4"),
            ("answer win a", "open"),
            ("why win b", "open 1 2"),
            ("worlds", "move a b, move b a, move b b, win b"),
            ("in win a", "none"),
            ("drop move b a", "parts 2 4"),
            ("worlds", "none"),
            ("in win a", "no world"),
            ("in move a b", "no world"),
            ("drop move b b", "parts 3 4"),
            ("answer win a", "true"),
            ("why win a", "true 1 1 1"),
            ("why win b", "false 1"),
            ("book", "things a b / say move a b / rule win X if move X Y, not win Y"),
            ("worlds", "move a b, win a"),
        ])

    def test_the_documents_words(self):
        self.talk(Desk(), [("text things a b / rule win X if move X b, not win X / rule move a b if not win a",
                            "ok 4 3"),
                           ("ask win a", "open: win a, move a b"),
                           ("why win a", "open 2 0")])
        self.talk(Desk(), [("text things a b c / rule p X if q Y / say q a", "ok 6 9"), ("why q a", "true 0 0 -")])

    def test_things_alone(self):
        self.talk(Desk(), [("text things a", "ok 0 0"), ("book", "things a"), ("worlds", "-"), ("rings", "none"),
                           ("ask p a", "false: p a")])

    def test_a_world_without_facts_beside_none(self):
        self.talk(Desk(), [("text things a / rule p if p", "ok 1 1"), ("worlds", "-"), ("in p", "none"),
                           ("rings", "p: ayes"),
                           ("put p", "parts 0"), ("worlds", "p"), ("drop p", "parts 0"), ("worlds", "-")])

    def test_each_word_of_the_rings(self):
        self.talk(Desk(), [
            ("text things a b / rule p if not q / rule q if not p / rule r if r / rule s if not s / rule t X if r",
             "ok 6 6"),
            ("rings", "p, q: even / r: ayes / s: odd / t a: plain / t b: plain")])

    def test_counts_and_least_ones(self):
        desk = desk_with("text things b a / say v b / rule w if many 2 X v X / rule lead X if first X v X")
        self.assertEqual([desk.say("answer w"), desk.say("answer lead b"), desk.say("answer lead a")],
                         ["false", "true", "false"])
        desk.say("put v a")
        self.assertEqual([desk.say("answer w"), desk.say("answer lead b"), desk.say("answer lead a")],
                         ["true", "true", "false"])
        desk.say("drop v b")
        self.assertEqual([desk.say("answer w"), desk.say("answer lead b"), desk.say("answer lead a")],
                         ["false", "false", "true"])
        self.assertEqual(desk.say("book"), "things b a / say v a / rule w if many 2 X v X / rule lead X if first X v X")

    def test_the_present_book_says_its_facts_in_the_order_of_their_numbers(self):
        desk = desk_with("text things b a / say q b / say p a / say q a / rule r / say p b")
        self.assertEqual(desk.say("book"), "things b a / say p a / say p b / say q a / say q b / rule r")
        desk.say("put r")
        desk.say("drop q a")
        self.assertEqual(desk.say("book"), "things b a / say p a / say p b / say q b / say r / rule r")

    def test_the_present_book_is_asked(self):
        desk = desk_with(SMALL)
        self.assertEqual(desk.say("ask move b b"), "false: move b b")
        desk.say("put move b b")
        self.assertEqual(desk.say("ask move b b"), "true: move b b")
        self.assertEqual(desk.say("ask win b"), "open: win b, win a")
        desk.say("drop move b a")
        self.assertEqual(desk.say("ask win b"), "open: win b")
        self.assertEqual(desk.say("ask other a b"), "false: other a b")

    def test_a_new_text_forgets_what_was_before(self):
        desk = desk_with(SMALL, "put win b")
        self.assertEqual(desk.say("text things c / say q c"), "ok 1 0")
        self.assertEqual(desk.say("book"), "things c / say q c")
        with self.assertRaises(NoFact):
            desk.say("answer win a")
        self.assertEqual(desk.say(SMALL), "ok 6 4")
        self.assertEqual(desk.say("answer win b"), "open")

    def test_random_books_as_the_other_files_tell_them(self):
        chance = random.Random(103)
        for _ in range(60):
            text = random_book(chance)
            names, sheet, told = written_out(read_book(text))
            desk = Desk()
            self.assertEqual(desk.say("text " + text.replace("\n", " / ")), "ok " + str(len(names)) + " "
                             + str(len(sheet.row_list())))
            keeper = Keeper(sheet, told)
            for _ in range(4):
                self.hold(desk, names, sheet, keeper)
                if names:
                    fact = chance.randrange(len(names))
                    word = "drop" if keeper.told_facts() >> fact & 1 else "put"
                    worked = keeper.drop(fact) if word == "drop" else keeper.put(fact)
                    self.assertEqual(desk.say(word + " " + names[fact]), "parts"
                                     + "".join(" " + str(number) for number in worked))

    def hold(self, desk, names, sheet, keeper):
        told = keeper.told_facts()
        sorting = Sorting(sheet, told)
        papers = papers_of(sheet, told)
        book = read_book(desk.say("book").replace(" / ", "\n"))
        self.assertEqual([" ".join(fact) for fact in book.said], [name for fact, name in enumerate(names)
                                                                  if told >> fact & 1])
        self.assertEqual(desk.say("book"), write_book(book).replace("\n", " / "))
        few = bin(sorting.open_facts()).count("1") <= 12
        for fact, name in enumerate(names):
            self.assertEqual(desk.say("answer " + name), sorting.answer_of(fact))
            self.assertEqual(desk.say("why " + name), " ".join("-" if part is None else str(part)
                                                               for part in papers[fact]))
            answer, wants = asked_fact(book, tuple(name.split(" ")))
            self.assertEqual(desk.say("ask " + name), answer + ": " + ", ".join(" ".join(want) for want, _ in wants))
            if few:
                self.assertEqual(desk.say("in " + name), in_worlds(sheet, told, fact)[0])
        rings = [", ".join(names[fact] for fact in part) + ": " + ring_of(sheet, part)[0] for part in parts_of(sheet)]
        self.assertEqual(desk.say("rings"), " / ".join(rings) or "none")
        if few:
            worlds = [", ".join(name for fact, name in enumerate(names) if world >> fact & 1) or "-"
                      for world in worlds_of(sheet, told)]
            self.assertEqual(desk.say("worlds"), " / ".join(worlds) or "none")


class Refused(unittest.TestCase):
    def state(self, desk):
        """All that the desk tells of its book."""
        try:
            names = [part.split(": ")[0] for part in desk.say("rings").split(" / ")]
        except NoRow:
            return None
        facts = [name for part in names for name in part.split(", ") if part != "none"]
        return desk.say("book"), desk.say("rings"), [(desk.say("answer " + fact), desk.say("why " + fact))
                                                     for fact in facts]

    def refuse(self, desk, row, kind, **fields):
        before = self.state(desk)
        with self.assertRaises(kind, msg=repr(row)) as caught:
            desk.say(row)
        self.assertIs(caught.exception.__class__, kind)
        self.assertEqual(vars(caught.exception), fields, repr(row))
        for name, value in fields.items():
            self.assertIs(getattr(caught.exception, name).__class__, value.__class__)
        self.assertEqual(self.state(desk), before)

    def test_what_is_no_text(self):
        for thing in NO_TEXTS + [["book"], ("worlds",), {"book": "book"}]:
            self.refuse(Desk(), thing, NoRow)
            self.refuse(desk_with(SMALL), thing, NoRow)

    def test_what_is_none_of_the_rows(self):
        rows = ["", " ", "  ", "\n", "a", "win a", "Book", "BOOK", "books", "boo", " book", "book ", "worlds ",
                "rings ", "book a", "worlds a",
                "rings a", "book  ", "book\n", "\nbook", "book\t", "worlds\n", "text", "put", "drop", "answer", "why",
                "in", "ask",
                "text\n", "put\twin a", "put\nwin a", " put win a", "  put win a", "Put win a", "putwin a", "put,win a",
                "things a", "say p",
                "rule p", "rings / worlds", "ok", "none", "/", "-", "text\tthings a", "texts things a",
                " text things a", "answers win a"]
        for row in rows:
            self.refuse(Desk(), row, NoRow)
            self.refuse(desk_with(SMALL), row, NoRow)

    def test_every_row_but_text_without_a_book(self):
        for word in WORDS[1:]:
            for row in [word, word + " ", word + " win a", word + " x y z", word + " ?"]:
                self.refuse(Desk(), row, NoRow)
        self.refuse(Desk(), "text ", BadLine, line=1)
        self.refuse(Desk(), "text things", BadLine, line=1)
        desk = Desk()
        self.refuse(desk, "text things a / say q b", BadLine, line=2)
        self.refuse(desk, "book", NoRow)

    def test_a_word_with_a_blank_behind_it_and_nothing_more(self):
        desk = desk_with(SMALL)
        for word in ["put", "drop", "answer", "why", "in"]:
            self.refuse(desk, word + " ", NoFact, fact="")
        self.refuse(desk, "text ", BadLine, line=1)
        self.refuse(desk, "ask ", NoFact, fact=("",))

    def test_texts(self):
        desk = desk_with(SMALL)
        for text, line in [
                ("things", 1), ("thing a", 1), (" things a", 1), ("things a ", 1), ("say p", 1), ("things a / ", 2),
                ("things a /", 1),
                ("things a/ say p", 1), ("things a /say p", 1), ("things a / say p / say p", 3),
                ("things a /  / say p", 2),
                ("things a / / say p", 2), ("things a  / say p", 1), ("things a /  say p", 2),
                ("things a / say p a / rule q X if", 3),
                (" / things a", 1), ("/ things a", 1), ("things a // say p", 1),
                ("things a / say p / rule p if q, r / rule P", 4)]:
            self.refuse(desk, "text " + text, BadLine, line=line)

    def test_a_line_feed_parts_no_lines(self):
        desk = desk_with(SMALL)
        for text, line in [
                ("things a\nsay p", 1), ("things a\n", 1), ("\nthings a", 1), ("things a / say p\nsay q", 2),
                ("things a / say p\n", 2),
                ("things a / say p\n / say q", 2), ("things a / rule p if q,\nr", 2), ("things a / rule p\nif q", 2),
                ("things a / say q / rule p if q\nrule r", 3), ("things a\n / say p", 1), ("things a / \nsay p", 2),
                ("things a / say p / \n", 3), ("things a / say p\n/ say", 2), ("things a / rule p X if q X,\n r X", 2),
                ("things a / rule p if\n q", 2), ("things a\tb", 1)]:
            self.refuse(desk, "text " + text, BadLine, line=line)

    def test_texts_that_are_too_large(self):
        desk = desk_with(SMALL)
        self.refuse(desk, "text things a b c d e f / rule p W X Y if q Z", TooManyRows, count=1296)
        self.refuse(desk, "text things a b c d e f / rule p X Y Z", TooManyFacts, count=216)
        self.refuse(desk, "text things a b c d e f / rule p X Y Z / rule q X Y Z", TooManyRows, count=432)
        self.refuse(desk, "text things a b c d e f / rule p X Y Z / rule q X Y Z / say", BadLine, line=4)
        self.refuse(Desk(), "text things a b c d e f / rule p W X Y if q Z", TooManyRows, count=1296)

    def test_what_is_no_fact_of_the_sheet(self):
        desk = desk_with(SMALL)
        for word in ["put", "drop", "answer", "why", "in"]:
            for fact in ["win", "win c", "win  a", " win a", "win a ", "win a b", "Win a", "win A", "win X", "move a",
                         "move a c", "other",
                         "win a, win b", "win a / win b", "4", "0", "-", "win\ta", "win a\n", "\nwin a", "win,a", "a",
                         " "]:
                self.refuse(desk, word + " " + fact, NoFact, fact=fact)

    def test_drop_of_what_is_not_told_and_put_of_what_is(self):
        desk = desk_with(SMALL)
        self.refuse(desk, "drop win a", NoFact, fact="win a")
        self.refuse(desk, "drop move a a", NoFact, fact="move a a")
        self.refuse(desk, "put move a b", OldFact, fact="move a b")
        desk.say("put win a")
        self.refuse(desk, "put win a", OldFact, fact="win a")
        desk.say("drop win a")
        self.refuse(desk, "drop win a", NoFact, fact="win a")

    def test_too_many_open_facts(self):
        even = " / ".join("rule " + one + other + " if not " + other + one for one in "kl" for other in "abcdef")
        even += " / " + " / ".join("rule " + other + one + " if not " + one + other for one in "kl"
                                   for other in "abcdef")
        desk = desk_with("text things a / say q / " + even)
        self.assertEqual(desk.say("answer ka"), "open")
        self.refuse(desk, "worlds", TooManyOpen, count=24)
        self.refuse(desk, "in ka", TooManyOpen, count=24)
        self.refuse(desk, "in q", TooManyOpen, count=24)
        self.refuse(desk, "in other", NoFact, fact="other")
        for other in "abcdef":
            desk.say("put k" + other)
        self.assertEqual(len(desk.say("worlds").split(" / ")), 64)
        self.assertEqual(desk.say("in la"), "some")
        desk.say("drop kf")
        self.refuse(desk, "worlds", TooManyOpen, count=14)

    def test_ask(self):
        desk = desk_with(SMALL)
        for words in [("win", "c"), ("Win", "a"), ("win", "X"), ("", "win", "a"), ("win", "", "a"), ("win", "a", ""),
                      ("win", "a", "a", "a", "a"),
                      ("if",), ("win\na",), ("win", "a,"), ("win", "a\n"), ("win", "a,", "win", "b"), ("4",), ("",),
                      ("", "")]:
            self.refuse(desk, "ask " + " ".join(words), NoFact, fact=words)

    def test_what_was_written_out_is_never_too_much_to_ask(self):
        # Each of 400 rows is counted at most once, and each of 120 facts wanted once.
        lines = ["things a b c d e f", "rule p if q X, q Y, q Z"] + ["rule p if q X, q Y"] * 5 + ["rule p"] * 4
        self.assertEqual(desk_with("text " + " / ".join(lines)).say("ask p"), "true: p")
        lines = ["things a b c d e f", "rule p if f X Y, g X Y, h X Y"] + ["rule " + word + " X Y" for word in "fgh"]
        lines += ["rule p if " + word for word in letter_words(11)] + ["rule " + word for word in letter_words(11)]
        desk = desk_with("text " + " / ".join(lines))
        self.assertEqual(len(desk.say("ask p").split(", ")), 120)
        self.assertEqual(desk.say("ask other"), "false: other")


class Apart(unittest.TestCase):
    def test_two_desks_beside_one_another(self):
        one = desk_with(SMALL)
        other = desk_with(GAME)
        empty = Desk()
        before = other.say("book"), other.say("worlds")
        one.say("put win b")
        one.say("drop move a b")
        self.assertEqual((other.say("book"), other.say("worlds")), before)
        with self.assertRaises(NoRow):
            empty.say("book")
        again = desk_with(SMALL)
        self.assertEqual(again.say("answer win b"), "open")
        self.assertEqual(one.say("answer win b"), "true")

    def test_two_desks_that_are_told_the_same(self):
        rows = [GAME, "worlds", "put win a", "rings", "worlds", "drop move b c", "ask win c", "why win b", "in win b",
                "book"]
        one, other = Desk(), Desk()
        for row in rows:
            self.assertEqual(one.say(row), other.say(row))

    def test_asking_changes_nothing(self):
        desk = desk_with(GAME)
        rows = ["book", "answer win a", "why win a", "worlds", "in win a", "rings", "ask win a"]
        first = [desk.say(row) for row in rows]
        self.assertEqual([desk.say(row) for row in rows], first)


if __name__ == "__main__":
    unittest.main()
