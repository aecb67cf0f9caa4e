"""The desk: it is told rows, texts, and answers each with a text or refuses it."""

from notring.bits import has_fact, members
from notring.books import Book, read_lines, write_book
from notring.errors import NoFact, NoRow, OldFact
from notring.keeper import Keeper
from notring.papers import papers_of
from notring.questions import asked_fact
from notring.rings import ring_of
from notring.worlds import in_worlds, worlds_of
from notring.written import fact_name, written_out

FACT_ROWS = ("put", "drop", "answer", "why", "in")
BARE_ROWS = ("book", "worlds", "rings")
LINE_BREAK = " / "


class Desk:
    """At first without a book; changed by the rows that it is told."""

    def __init__(self):
        self.book = None
        self.names = []
        self.sheet = None
        self.keeper = None

    def say(self, row):
        if not isinstance(row, str):
            raise NoRow()
        parted = row.partition(" ")
        word = parted[0]
        # A bare word and a word with a blank and nothing behind it differ by the blank alone.
        rest = parted[2] if parted[1] == " " else None
        if word == "text" and rest is not None:
            return self.take_text(rest)
        if self.book is None:
            raise NoRow()
        if word in FACT_ROWS and rest is not None:
            return self.fact_row(word, rest)
        if word == "ask" and rest is not None:
            return self.ask(rest)
        if word in BARE_ROWS and rest is None:
            return self.bare_row(word)
        raise NoRow()

    def take_text(self, text):
        """Has the book of the lines from now on."""
        book = read_lines(text.split(LINE_BREAK))
        written = written_out(book)
        # All that may be refused is done: only now the desk is changed.
        self.book = book
        self.names = written[0]
        self.sheet = written[1]
        self.keeper = Keeper(written[1], written[2])
        facts = self.sheet.how_many()
        rows = self.sheet.row_count()
        return f"ok {facts} {rows}"

    def fact_row(self, word, name):
        """Answers a row that speaks of a fact by its text."""
        if name not in self.names:
            raise NoFact(name)
        fact = self.names.index(name)
        if word == "put" or word == "drop":
            return self.change(word, name, fact)
        if word == "answer":
            return self.keeper.answer_at(fact)
        told = self.keeper.told_facts()
        if word == "why":
            return " ".join(["-" if part is None else str(part) for part in papers_of(self.sheet, told)[fact]])
        return in_worlds(self.sheet, told, fact)[0]

    def change(self, word, name, fact):
        """Puts or drops the fact."""
        is_told = has_fact(self.keeper.told_facts(), fact)
        if word == "put" and is_told:
            raise OldFact(name)
        if word == "drop" and not is_told:
            raise NoFact(name)
        worked = self.keeper.put(fact) if word == "put" else self.keeper.drop(fact)
        return " ".join(["parts"] + [str(number) for number in worked])

    def bare_row(self, word):
        """Answers a row that is a word alone."""
        if word == "book":
            return write_book(self.present_book()).replace("\n", LINE_BREAK)
        if word == "rings":
            return broken_lines([self.ring_text(part) for part in self.keeper.parts_list()])
        worlds = worlds_of(self.sheet, self.keeper.told_facts())
        return broken_lines([self.world_text(world) for world in worlds])

    def present_book(self):
        """The book with what is told now as what it says."""
        said = [tuple(self.names[fact].split(" ")) for fact in members(self.keeper.told_facts())]
        return Book(self.book.things, tuple(said), self.book.rules)

    def world_text(self, world):
        """The texts of the world's facts."""
        return "-" if world == 0 else ", ".join([self.names[fact] for fact in members(world)])

    def ring_text(self, part):
        """The texts of the part's facts, and what its rings are like."""
        return ", ".join([self.names[fact] for fact in part]) + ": " + ring_of(self.sheet, part)[0]

    def ask(self, text):
        """Asks the present book for one fact."""
        asked = asked_fact(self.present_book(), tuple(text.split(" ")))
        return asked[0] + ": " + ", ".join([fact_name(want[0]) for want in asked[1]])


def broken_lines(texts):
    """The texts as they stand in one row; the word for none where there are none."""
    return LINE_BREAK.join(texts) if len(texts) > 0 else "none"
