"""The text of a book: read as a Book, and written again."""

from notring.errors import BadLine
from notring.words import is_name, is_variable

MOST_THINGS = 6
MOST_SAID = 60
MOST_RULES = 30
MOST_CONDS = 6
MOST_TERMS = 3
MOST_VARIABLES = 4
FIGURES = ("1", "2", "3", "4", "5", "6")


class Book:
    """Things, the facts that are said of them, and rules; made by read_book."""

    def __init__(self, things, said, rules):
        self.things = things
        self.said = said
        self.rules = rules


def read_book(text):
    """The Book of the text; refuses with BadLine, at the first wrong line."""
    if not isinstance(text, str):
        raise BadLine(1)
    return read_lines(text.split("\n"))


def read_lines(lines):
    """The Book of the lines, one at least; refuses with BadLine, at the first wrong one."""
    # A line feed within a line makes it wrong, as any sign does that stands in no word.
    things = read_things(lines[0].split(" "))
    if things is None:
        raise BadLine(1)
    said = []
    rules = []
    for number, line in enumerate(lines[1:], start=2):
        if not take_line(line, things, said, rules):
            raise BadLine(number)
    return Book(things, tuple(said), tuple(rules))


def take_line(line, things, said, rules):
    """Puts what the line tells to said or to rules; False where the line is wrong."""
    words = line.split(" ")
    if words[0] == "say":
        fact = read_fact(words[1:], things)
        if fact is None or fact in said or len(said) == MOST_SAID:
            return False
        said.append(fact)
        return True
    if words[0] == "rule":
        rule = read_rule(line, things)
        if rule is None or len(rules) == MOST_RULES:
            return False
        rules.append(rule)
        return True
    return False


# The readers below answer None for what is wrong: which line it is, read_book alone knows.


def read_things(words):
    """The things of a first line."""
    things = words[1:]
    if words[0] != "things" or len(things) < 1 or len(things) > MOST_THINGS:
        return None
    if not all([is_name(thing) for thing in things]):
        return None
    if len(set(things)) < len(things):
        return None
    return tuple(things)


def read_fact(words, things):
    """The atom of these words, which has no variable."""
    atom = read_atom(words, things)
    if atom is None or not all([term in things for term in atom[1:]]):
        return None
    return atom


def read_atom(words, things):
    """The atom of these words."""
    if len(words) < 1 or len(words) > 1 + MOST_TERMS or not is_name(words[0]):
        return None
    if not all([term in things or is_variable(term) for term in words[1:]]):
        return None
    return tuple(words)


def read_rule(line, things):
    """The rule of a line that begins with its word, as a tuple (head, conds)."""
    halves = line.split(" if ")
    if len(halves) > 2:
        return None
    head = read_atom(halves[0].split(" ")[1:], things)
    conds = read_conds(halves[1], things) if len(halves) == 2 else ()
    if head is None or conds is None or not variables_fit(head, conds):
        return None
    return (head, conds)


def read_conds(text, things):
    """The conds of what stands behind the if, as a tuple."""
    conds = [read_cond(part.split(" "), things) for part in text.split(", ")]
    if None in conds or len(conds) > MOST_CONDS:
        return None
    return tuple(conds)


def read_cond(words, things):
    """The cond of these words."""
    if words[0] == "many":
        return read_many(words, things)
    if words[0] == "first":
        return read_first(words, things)
    negated = words[0] == "not"
    atom = read_atom(words[1:] if negated else words, things)
    if atom is None:
        return None
    return ("not" if negated else "aye", atom)


def read_many(words, things):
    """The count of these words."""
    atom = read_atom(words[3:], things)
    if atom is None or words[1] not in FIGURES or not stands_in(words[2], atom):
        return None
    return ("many", int(words[1]), words[2], atom)


def read_first(words, things):
    """The least one of these words."""
    atom = read_atom(words[2:], things)
    if atom is None or not stands_in(words[1], atom):
        return None
    return ("first", words[1], atom)


def stands_in(word, atom):
    """Whether the word is a variable, and one of the atom's terms."""
    return is_variable(word) and word in atom[1:]


def variables_fit(head, conds):
    """Whether counted variables stand in their own conds alone, and the others are not too many."""
    atoms = [head] + [cond[-1] for cond in conds]
    counted = [cond[2] for cond in conds if cond[0] == "many"]
    for variable in counted:
        if len([atom for atom in atoms if variable in atom[1:]]) > 1:
            return False
    variables = []
    for atom in atoms:
        variables.extend([term for term in atom[1:] if is_variable(term)])
    return len(set(variables) - set(counted)) <= MOST_VARIABLES


def write_book(book):
    """The text of the book: its things, then what is said, then its rules."""
    lines = ["things " + " ".join(book.things)]
    lines.extend(["say " + " ".join(fact) for fact in book.said])
    lines.extend([rule_line(rule[0], rule[1]) for rule in book.rules])
    return "\n".join(lines)


def rule_line(head, conds):
    """The line that tells the rule."""
    line = "rule " + " ".join(head)
    if len(conds) == 0:
        return line
    return line + " if " + ", ".join([cond_text(cond) for cond in conds])


def cond_text(cond):
    """The cond as it stands in a line."""
    ahead = [] if cond[0] == "aye" else [str(word) for word in cond[:-1]]
    return " ".join(ahead + list(cond[-1]))
