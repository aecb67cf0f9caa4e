"""What several tests hand in."""

import random


def letter_words(many):
    """Names of two letters, as many as asked for, none of them kept."""
    letters = "abcdefghij"
    return [one + other for one in letters for other in letters][:many]


def deep(thing, depth):
    """The thing within lists, tuples and dicts, depth of them in one another."""
    for level in range(depth):
        thing = ([thing], (thing,), {"a": thing})[level % 3]
    return thing


# Handed in where a text is asked for, and a refusal or a plain no is promised for all else.
NO_TEXTS = [
    None, True, False, 0, 1, -1, 6, 10 ** 99, -(10 ** 99),
    [], (), {}, ["a"], ("a",), {"a": "a"}, {"a": True}, [None], ("A",), ["A", "A"],
    ["things a"], ("things a", "say p a"), {"things": "a"}, [[["things a"]]],
    deep("a", 20), deep("A", 19), deep([], 18), deep("things a", 20), deep(10 ** 99, 20),
]


def random_cond(chance, many):
    """A cond of a sheet of so many facts, told as a tuple; chance is a random.Random."""
    word = chance.choice(["have", "have", "lack", "lack", "some", "lead"])
    if word in ("have", "lack"):
        return (word, chance.randrange(many))
    facts = tuple(chance.sample(range(many), chance.randint(1, min(many, 6))))
    if word == "some":
        return ("some", chance.randint(1, min(6, len(facts) + 1)), facts)
    return ("lead", facts, chance.randrange(len(facts)))


def random_rows(chance, many, most_rows, most_conds=3):
    """Rows of a sheet of so many facts."""
    if many == 0:
        return []
    return [(chance.randrange(many), [random_cond(chance, many) for _ in range(chance.randint(0, most_conds))])
            for _ in range(chance.randint(0, most_rows))]


def ringy_rows(chance, many):
    """Rows of one or two conds, mostly lacks, by which many facts stay open."""
    # Rings of two, which give several worlds where the other rows leave them alone.
    rows = [(fact, [("lack", fact ^ 1)]) for fact in range(chance.randrange(many + 1) & ~1)]
    for _ in range(chance.randint(many // 2, many)):
        conds = [random_cond(chance, many)] if chance.random() < 0.3 else []
        conds.append(("lack" if chance.random() < 0.8 else "have", chance.randrange(many)))
        rows.append((chance.randrange(many), conds))
    return rows


def random_cases(seed, how_many, most_facts):
    """Tuples (chance, many, rows, told), every other one with many open facts."""
    chance = random.Random(seed)
    for place in range(how_many):
        many = chance.randint(place % 2, most_facts)
        rows = ringy_rows(chance, many) if place % 2 else random_rows(chance, many, 2 * many)
        told = chance.randrange(1 << many) & chance.randrange(1 << many) & chance.randrange(1 << many)
        yield chance, many, rows, told if chance.random() < 0.5 else 0


def random_atom(chance, words, terms):
    """The text of an atom whose word comes with as many terms as words tells."""
    word = chance.choice(sorted(words))
    return " ".join([word] + [chance.choice(terms) for _ in range(words[word])])


def random_rule(chance, words, things):
    """A rule's line with at most two variables beside counted ones."""
    terms = things + chance.choice([["X"], ["X", "Y"], ["X", "Y", "X", "Y"]])
    conds = []
    for place in range(chance.choice([0, 1, 1, 2, 2, 3])):
        kind = chance.choice(["aye", "aye", "not", "not", "many", "first"])
        atom = random_atom(chance, words, terms)
        if kind == "not":
            atom = "not " + atom
        if kind in ("many", "first") and " " in atom:
            word, _, behind = atom.partition(" ")
            variable = "ABC"[place] if kind == "many" else chance.choice("XY")
            behind = " ".join([variable] + behind.split(" ")[1:])
            number = str(chance.randint(1, 3)) + " " if kind == "many" else ""
            atom = kind + " " + number + variable + " " + word + " " + behind
        conds.append(atom)
    head = random_atom(chance, words, terms)
    return "rule " + head + (" if " + ", ".join(conds) if conds else "")


def random_book(chance, most_things=3, most_rules=5, most_said=5):
    """The text of a book that can be written out, mostly."""
    words = chance.choice([{"p": 1, "q": 1, "r": 0}, {"p": 1, "q": 2, "r": 0, "s": 1}, {"p": 0, "q": 0, "r": 0, "s": 1},
                           {"p": 1, "q": 1, "e": 2}])
    things = ["a", "b", "c"][:chance.randint(1, most_things)]
    chance.shuffle(things)
    lines = [random_rule(chance, words, things) for _ in range(chance.randint(0, most_rules))]
    said = dict.fromkeys(random_atom(chance, words, things) for _ in range(chance.randint(0, most_said)))
    lines += ["say " + fact for fact in said]
    chance.shuffle(lines)
    return "\n".join(["things " + " ".join(things)] + lines)
