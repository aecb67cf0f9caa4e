"""Promises 6 to 9: over the whole program, from a book's text on."""

import random
import unittest

import reference
from notring.books import read_book
from notring.papers import papers_hold, papers_of
from notring.sorting import Sorting
from notring.written import written_out
from samples import random_book

GAME = "\n".join([
    "things a b c d e", "say move a b", "say move b a", "say move b c", "say move c d", "say move d e", "say move e d",
    "rule win X if move X Y, not win Y", "rule busy X if many 2 Y move X Y", "rule lead X if first X win X",
    "rule ahead X if lead X",
])


def random_texts(seed, how_many):
    chance = random.Random(seed)
    for _ in range(how_many):
        yield chance, random_book(chance)


class Sorted(unittest.TestCase):
    """Promise 6."""

    def answers(self, text):
        names, sheet, told = written_out(read_book(text))
        sorting = Sorting(sheet, told)
        return {name: sorting.answer_of(fact) for fact, name in enumerate(names)}

    def test_a_game(self):
        answers = self.answers(GAME)
        # d and e move to one another; c moves to d alone; b moves to a and c; a moves to b alone.
        self.assertEqual([answers["win " + thing] for thing in "abcde"], ["open"] * 5)
        self.assertEqual([answers["busy " + thing] for thing in "abcde"], ["false", "true", "false", "false", "false"])
        self.assertEqual(answers["lead a"], "open")
        self.assertEqual(answers["ahead e"], "open")
        answers = self.answers(GAME.replace("say move e d\n", ""))
        self.assertEqual([answers["win " + thing] for thing in "abcde"], ["false", "true", "false", "true", "false"])
        self.assertEqual([answers["ahead " + thing] for thing in "abcde"], ["false", "true", "false", "false", "false"])

    def test_each_fact_is_sorted_and_its_papers_hold(self):
        seen = set()
        for _, text in random_texts(6, 150):
            names, sheet, told = written_out(read_book(text))
            answers = self.answers(text)
            papers = papers_of(sheet, told)
            self.assertEqual([paper[0] for paper in papers], [answers[name] for name in names])
            self.assertIs(papers_hold(sheet, told, papers), True, text)
            rows = reference.written(text)[1]
            self.assertEqual(list(answers.values()), reference.answers(rows, len(names), reference.facts_in(told)))
            seen.update(answers.values())
        self.assertEqual(seen, {"true", "false", "open"})

    def test_papers_with_another_answer_do_not_hold(self):
        for chance, text in random_texts(61, 100):
            names, sheet, told = written_out(read_book(text))
            papers = papers_of(sheet, told)
            for fact in range(len(names)):
                others = [("true", 0, 0, None), ("false", chance.randint(-2, 9))]
                for row in sheet.rows_for(fact):
                    others += [("true", chance.randint(-2, 9), chance.randint(-2, 9), row), ("open", chance.randint(-2, 9), row)]
                for paper in others:
                    if paper[0] != papers[fact][0]:
                        changed = papers[:fact] + [paper] + papers[fact + 1:]
                        self.assertIs(papers_hold(sheet, told, changed), False, (text, changed))


if __name__ == "__main__":
    unittest.main()
