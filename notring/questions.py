"""Questions: a book is asked for one fact, which is answered by the rows that are wanted alone."""

from notring.bits import set_of
from notring.books import read_fact
from notring.conds import made_cond
from notring.errors import NoFact, TooManyFacts, TooManyRows
from notring.instances import all_bindings, cond_facts, how_many_bindings, rule_variables, sheet_cond
from notring.sheets import MOST_FACTS, MOST_ROWS, Sheet
from notring.sorting import Sorting
from notring.words import is_variable


def asked_fact(book, atom):
    """The answer of the fact, and the wants; refuses with NoFact, TooManyRows and TooManyFacts."""
    if not isinstance(atom, tuple) or read_fact(atom, book.things) is None:
        raise NoFact(atom)
    search = Search(book)
    search.want(atom, None)
    search.follow()
    return (search.first_answer(), list(search.wants))


def kind_of(atom):
    """The kind of the atom: its word and the number of its terms."""
    return (atom[0], len(atom) - 1)


def head_bound(head, fact):
    """The things that the head's variables have where it fits the fact, as a dict; None where it does not."""
    if kind_of(head) != kind_of(fact):
        return None
    bound = {}
    for term, thing in zip(head, fact):
        if is_variable(term):
            bound.setdefault(term, thing)
        if bound.get(term, term) != thing:
            return None
    return bound


class Search:
    """What a question wants of a book: facts, each with its cause, and the rows for them."""

    def __init__(self, book):
        self.book = book
        self.full_kinds = {}
        for rule in book.rules:
            self.full_kinds[kind_of(rule[0])] = True
        self.wants = []
        self.numbers = {}
        self.rows = []
        self.counted = 0

    def want(self, fact, cause):
        """Puts the fact to the wants, if it is not wanted already."""
        if fact in self.numbers:
            return
        if len(self.wants) == MOST_FACTS:
            raise TooManyFacts(MOST_FACTS + 1)
        self.numbers[fact] = len(self.wants)
        self.wants.append((fact, cause))

    def follow(self):
        """Takes the instances of each wanted fact, also of those that come to be wanted meanwhile."""
        place = 0
        while place < len(self.wants):
            self.take_fact(self.wants[place][0])
            place = place + 1

    def take_fact(self, fact):
        """Takes the instances with the fact as their head."""
        fitting = []
        for rule in self.book.rules:
            bound = head_bound(rule[0], fact)
            if bound is not None:
                loose = [variable for variable in rule_variables(rule) if variable not in bound]
                fitting.append((rule, bound, loose))
                self.counted = self.counted + how_many_bindings(self.book.things, loose)
        if self.counted > MOST_ROWS:
            raise TooManyRows(self.counted)
        for rule, bound, loose in fitting:
            for whole in all_bindings(self.book.things, loose, bound):
                self.take_instance(fact, rule[1], whole)

    def take_instance(self, head, conds, bound):
        """Wants what the instance leans on and puts its row to the rows, if it is not passed over."""
        full = []
        for cond in conds:
            if kind_of(cond[-1]) in self.full_kinds:
                full.append(cond)
            elif not self.is_met(cond, bound):
                return
        told = []
        for cond in full:
            facts = cond_facts(cond, bound, self.book.things)
            for fact in facts:
                self.want(fact, head)
            told.append(sheet_cond(cond, bound, self.book.things, [self.numbers[fact] for fact in facts]))
        self.rows.append((self.numbers[head], told))

    def is_met(self, cond, bound):
        """Whether the bare cond is met by what is said."""
        facts = cond_facts(cond, bound, self.book.things)
        # Its facts are numbered by their places in it: no other cond is looked at together with it.
        said = set_of([place for place, fact in enumerate(facts) if fact in self.book.said])
        told = sheet_cond(cond, bound, self.book.things, list(range(len(facts))))
        return made_cond(told).carried(said, said)

    def first_answer(self):
        """The answer of the fact that was wanted first."""
        told = set_of([self.numbers[fact] for fact in self.book.said if fact in self.numbers])
        return Sorting(Sheet(len(self.wants), self.rows), told).answer_of(0)
