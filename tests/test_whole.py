"""Promises 6 to 9: over the whole program, from a book's text on."""

import os
import pathlib
import random
import subprocess
import sys
import unittest

import reference
from notring.books import read_book, write_book
from notring.desk import Desk
from notring.errors import TooManyOpen
from notring.keeper import Keeper
from notring.papers import papers_hold, papers_of
from notring.questions import asked_fact
from notring.rings import parts_of, ring_of
from notring.sorting import Sorting
from notring.worlds import tree_holds, tree_of, worlds_of
from notring.written import written_out
from samples import random_book

GAME = "\n".join([
    "things a b c d e", "say move a b", "say move b a", "say move b c", "say move c d", "say move d e", "say move e d",
    "rule win X if move X Y, not win Y", "rule busy X if many 2 Y move X Y", "rule lead X if first X win X",
])


def random_texts(seed, how_many):
    chance = random.Random(seed)
    for _ in range(how_many):
        yield chance, random_book(chance)


class Sorted(unittest.TestCase):
    """Promise 6."""

    def answers(self, text):
        names, sheet, told = written_out(read_book(text))
        sorting = Sorting(sheet, told)
        return {name: sorting.answer_of(fact) for fact, name in enumerate(names)}

    def test_a_game(self):
        answers = self.answers(GAME)
        # d and e move to one another; c moves to d alone; b moves to a and c; a moves to b alone.
        self.assertEqual([answers["win " + thing] for thing in "abcde"], ["open"] * 5)
        self.assertEqual([answers["busy " + thing] for thing in "abcde"], ["false", "true", "false", "false", "false"])
        self.assertEqual(answers["lead a"], "open")
        self.assertEqual(answers["lead e"], "open")
        answers = self.answers(GAME.replace("say move e d\n", ""))
        self.assertEqual([answers["win " + thing] for thing in "abcde"], ["false", "true", "false", "true", "false"])
        self.assertEqual([answers["lead " + thing] for thing in "abcde"], ["false", "true", "false", "false", "false"])

    def test_each_fact_is_sorted_and_its_papers_hold(self):
        seen = set()
        for _, text in random_texts(6, 150):
            names, sheet, told = written_out(read_book(text))
            answers = self.answers(text)
            papers = papers_of(sheet, told)
            self.assertEqual([paper[0] for paper in papers], [answers[name] for name in names])
            self.assertIs(papers_hold(sheet, told, papers), True, text)
            rows = reference.written(text)[1]
            self.assertEqual(list(answers.values()), reference.answers(rows, len(names), reference.facts_in(told)))
            seen.update(answers.values())
        self.assertEqual(seen, {"true", "false", "open"})

    def test_papers_with_another_answer_do_not_hold(self):
        for chance, text in random_texts(61, 100):
            names, sheet, told = written_out(read_book(text))
            papers = papers_of(sheet, told)
            for fact in range(len(names)):
                others = [("true", 0, 0, None), ("false", chance.randint(-2, 9))]
                for row in sheet.rows_for(fact):
                    others += [("true", chance.randint(-2, 9), chance.randint(-2, 9), row),
                               ("open", chance.randint(-2, 9), row)]
                for paper in others:
                    if paper[0] != papers[fact][0]:
                        changed = papers[:fact] + [paper] + papers[fact + 1:]
                        self.assertIs(papers_hold(sheet, told, changed), False, (text, changed))


class Worlds(unittest.TestCase):
    """Promise 7."""

    def test_the_game_that_goes_round(self):
        names, sheet, told = written_out(read_book(GAME))
        worlds = worlds_of(sheet, told)
        wins = [[name for fact, name in enumerate(names) if world >> fact & 1 and name.startswith("win")]
                for world in worlds]
        # Where d wins, c does not, so b does; where e wins, c does, and a or b does.
        self.assertEqual(sorted(wins), [["win a", "win c", "win e"], ["win b", "win c", "win e"], ["win b", "win d"]])

    def test_worlds_of_random_books(self):
        seen = set()
        for chance, text in random_texts(7, 250):
            if chance.random() < 0.5:
                text += "\nrule u if not v\nrule v if not u"
            names, sheet, told = written_out(read_book(text))
            sorting = Sorting(sheet, told)
            words = [ring_of(sheet, part)[0] for part in parts_of(sheet)]
            try:
                worlds = worlds_of(sheet, told)
            except TooManyOpen as error:
                self.assertEqual(error.count, bin(sorting.open_facts()).count("1"))
                continue
            self.assertIs(tree_holds(sheet, told, tree_of(sheet, told)), True)
            self.assertEqual(len(worlds), len(set(worlds)))
            for world in worlds:
                self.assertEqual((sorting.true_facts() & ~world, sorting.false_facts() & world), (0, 0))
            if len(names) <= 9:
                rows = reference.written(text)[1]
                self.assertEqual(sorted(worlds), reference.worlds(rows, len(names), reference.facts_in(told)))
                seen.add(min(len(worlds), 2))
            if "odd" not in words:
                self.assertNotEqual(worlds, [], text)
            if "odd" not in words and "even" not in words:
                self.assertEqual((sorting.open_facts(), len(worlds)), (0, 1), text)
        self.assertEqual(seen, {0, 1, 2})


class Questions(unittest.TestCase):
    """Promise 8."""

    def test_the_game(self):
        book = read_book(GAME)
        names, sheet, told = written_out(book)
        sorting = Sorting(sheet, told)
        for fact, name in enumerate(names):
            self.assertEqual(asked_fact(book, tuple(name.split(" ")))[0], sorting.answer_of(fact))
        # Of c alone d and e are wanted, and nothing of a and b.
        self.assertEqual(asked_fact(book, ("win", "c")), ("open", [
            (("win", "c"), None), (("win", "d"), ("win", "c")), (("win", "e"), ("win", "d"))]))

    def test_each_want_goes_back_to_the_question(self):
        for _, text in random_texts(8, 150):
            book = read_book(text)
            names, sheet, told = written_out(book)
            sorting = Sorting(sheet, told)
            for fact, name in enumerate(names):
                answer, wants = asked_fact(book, tuple(name.split(" ")))
                self.assertEqual(answer, sorting.answer_of(fact), (text, name))
                self.assertEqual(wants[0], (tuple(name.split(" ")), None))
                atoms = [atom for atom, _ in wants]
                self.assertEqual(len(atoms), len(set(atoms)))
                for place, (atom, cause) in enumerate(wants[1:], 1):
                    self.assertIn(cause, atoms[:place])
                    rows = sheet.rows_for(names.index(" ".join(cause)))
                    facts = [other for row in rows for cond in sheet.row_list()[row][1]
                             for other in reference.cond_texts(cond)]
                    self.assertIn(names.index(" ".join(atom)), facts)


class Changes(unittest.TestCase):
    """Promise 9."""

    def test_behind_every_row_of_changes(self):
        for chance, text in random_texts(9, 80):
            names, sheet, told = written_out(read_book(text))
            keeper = Keeper(sheet, told)
            parts = keeper.parts_list()
            for _ in range(8 if names else 0):
                fact = chance.randrange(len(names))
                worked = keeper.drop(fact) if keeper.told_facts() >> fact & 1 else keeper.put(fact)
                sorting = Sorting(sheet, keeper.told_facts())
                self.assertEqual([keeper.answer_at(other) for other in range(len(names))],
                                 [sorting.answer_of(other) for other in range(len(names))])
                leads = reference.walk_leads(reference.written(text)[1], len(names))
                for number in worked:
                    self.assertTrue(fact in parts[number] or all((other, fact) in leads for other in parts[number]))

    def test_the_desk_as_a_book_that_is_read_anew(self):
        for chance, text in random_texts(91, 60):
            desk = Desk()
            desk.say("text " + text.replace("\n", " / "))
            names, sheet, told = written_out(read_book(text))
            for _ in range(4 if names else 0):
                fact = chance.randrange(len(names))
                desk.say(("drop " if told >> fact & 1 else "put ") + names[fact])
                told ^= 1 << fact
                other = Desk()
                other.say("text " + desk.say("book"))
                # The book that is read anew has fewer facts where one that was dropped stands in no rule.
                for name in sorted(set(names)):
                    answer = desk.say("answer " + name)
                    self.assertEqual(desk.say("ask " + name), other.say("ask " + name))
                    self.assertEqual(answer, other.say("ask " + name).split(": ")[0])


SCRIPT = """
from notring.desk import Desk
desk = Desk()
for row in ROWS:
    print(desk.say(row))
"""


class Same(unittest.TestCase):
    """Point 1: nothing hangs on a clock, chance or files."""

    def test_the_same_in_every_run(self):
        rows = ["text " + write_book(read_book(GAME)).replace("\n", " / "), "book", "worlds", "rings", "ask lead c",
                "why lead c",
                "drop move e d", "put win e", "worlds", "rings", "why lead b", "in win a", "ask lead e", "book"]
        told = [self.run_rows(rows, seed) for seed in ["0", "1", "77"]]
        desk = Desk()
        self.assertEqual(told[0].splitlines(), [desk.say(row) for row in rows])
        self.assertEqual(told, [told[0]] * 3)

    def run_rows(self, rows, seed):
        root = pathlib.Path(__file__).resolve().parent.parent
        environment = dict(os.environ, PYTHONHASHSEED=seed, PYTHONPATH=str(root), PYTHONDONTWRITEBYTECODE="1")
        done = subprocess.run([sys.executable, "-c", "ROWS = " + repr(rows) + SCRIPT], env=environment,
                              capture_output=True,
                              text=True, check=True)
        return done.stdout


if __name__ == "__main__":
    unittest.main()
