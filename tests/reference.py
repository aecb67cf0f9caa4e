"""The document's words done in the plainest way, over Python's sets and the tuples that are told.

It draws nothing from the package: the tests hold the program against it.
"""

import itertools


def facts_in(bits):
    """The facts of a set that is told as a whole number, as a Python set."""
    return {fact for fact in range(bits.bit_length()) if bits & (1 << fact)}


def bits_of(facts):
    return sum(1 << fact for fact in set(facts))


def carried(cond, have, may):
    """Point 21, of a cond that is told as a tuple."""
    if cond[0] == "have":
        return cond[1] in have
    if cond[0] == "lack":
        return cond[1] not in may
    if cond[0] == "some":
        return sum(fact in have for fact in cond[2]) >= cond[1]
    facts, at = cond[1:]
    return facts[at] in have and not any(fact in may for fact in facts[:at])


def blocked(cond, have, may):
    """Point 21."""
    if cond[0] == "have":
        return cond[1] not in may
    if cond[0] == "lack":
        return cond[1] in have
    if cond[0] == "some":
        return sum(fact in may for fact in cond[2]) < cond[1]
    facts, at = cond[1:]
    return facts[at] not in may or any(fact in have for fact in facts[:at])


def leaning(cond):
    """Point 21."""
    if cond[0] == "have":
        return [(cond[1], False)]
    if cond[0] == "lack":
        return [(cond[1], True)]
    if cond[0] == "some":
        return [(fact, False) for fact in cond[2]]
    facts, at = cond[1:]
    return [(fact, place < at) for place, fact in enumerate(facts) if place <= at]


def leaned(rows, fact):
    """Point 23, of rows (head, conds)."""
    return sorted({pair for head, conds in rows if head == fact for cond in conds for pair in leaning(cond)})


def walk_leads(rows, many):
    """The pairs (one, other) where a walk of at least one step leads from one to the other (31)."""
    steps = {(fact, other) for fact in range(many) for other, _ in leaned(rows, fact)}
    pairs = set(steps)
    while True:
        more = {(one, last) for one, middle in pairs for first, last in steps if middle == first} - pairs
        if not more:
            return pairs
        pairs |= more


def parts(rows, many):
    """Point 31."""
    pairs = walk_leads(rows, many)
    left = {tuple(other for other in range(many)
                  if other == fact or ((fact, other) in pairs and (other, fact) in pairs))
            for fact in range(many)}
    told = []
    while left:
        ahead = {fact for part in told for fact in part}
        ready = [part for part in left
                 if all(other in ahead or other in part for fact in part for other, _ in leaned(rows, fact))]
        told.append(min(ready))
        left.remove(told[-1])
    return told


def line_variables(line):
    """The variables of a rule's line (24), as its words stand, counted ones left out."""
    words = line.replace(",", "").split(" ")
    counted = [words[place + 2] for place, word in enumerate(words) if word == "many"]
    standing = [word for word in words if len(word) == 1 and word.isupper() and word not in counted]
    return list(dict.fromkeys(standing))


def line_instances(line, things):
    """The instances of a rule's line: tuples (head, conds) with facts as texts, conds told as in 21."""
    variables = line_variables(line)
    head, _, behind = line.removeprefix("rule ").partition(" if ")
    for chosen in itertools.product(things, repeat=len(variables)):
        bound = dict(zip(variables, chosen))
        yield fill(head, bound), [text_cond(cond, bound, things) for cond in behind.split(", ") if cond]


def fill(text, bound):
    return " ".join(bound.get(word, word) for word in text.split(" "))


def text_cond(text, bound, things):
    words = text.split(" ")
    if words[0] == "not":
        return ("lack", fill(" ".join(words[1:]), bound))
    if words[0] == "many":
        rest = " ".join(words[3:])
        return ("some", int(words[1]), tuple(fill(rest, {**bound, words[2]: thing}) for thing in things))
    if words[0] == "first":
        rest = " ".join(words[2:])
        facts = tuple(fill(rest, {**bound, words[1]: thing}) for thing in things)
        return ("lead", facts, list(things).index(bound[words[1]]))
    return ("have", fill(text, bound))


def cond_texts(cond):
    """The facts of a cond."""
    if cond[0] == "some":
        return cond[2]
    if cond[0] == "lead":
        return cond[1]
    return (cond[1],)


def numbered(cond, names):
    """The cond with the numbers of its facts in the place of their texts."""
    if cond[0] == "some":
        return cond[:2] + (tuple(names.index(fact) for fact in cond[2]),)
    if cond[0] == "lead":
        return ("lead", tuple(names.index(fact) for fact in cond[1]), cond[2])
    return (cond[0], names.index(cond[1]))


def written(text):
    """Points 24 and 25, of a book's text: names, rows and what is told."""
    lines = text.split("\n")
    things = lines[0].split(" ")[1:]
    said = [line[4:] for line in lines if line.startswith("say ")]
    instances = [instance for line in lines if line.startswith("rule ") for instance in line_instances(line, things)]
    facts = set(said)
    for head, conds in instances:
        facts.add(head)
        facts.update(fact for cond in conds for fact in cond_texts(cond))
    names = sorted(facts)
    rows = [(names.index(head), tuple(numbered(cond, names) for cond in conds)) for head, conds in instances]
    return names, rows, bits_of(names.index(fact) for fact in said)


def ranked(rows, told, against):
    """Points 41 and 43, over Python sets: a list of tuples (fact, step, row)."""
    found = [(fact, 0, None) for fact in sorted(told)]
    come = set(told)
    step = 0
    while True:
        step += 1
        fresh = {}
        for row, (head, conds) in enumerate(rows):
            if head not in come and head not in fresh and all(carried(cond, come, against) for cond in conds):
                fresh[head] = row
        if not fresh:
            return found
        found += [(fact, step, fresh[fact]) for fact in sorted(fresh)]
        come |= set(fresh)


def least(rows, told, against):
    """Point 42."""
    return {fact for fact, _, _ in ranked(rows, told, against)}


def runs(rows, told):
    """Point 51: pairs of Python sets."""
    found = []
    known = set()
    while True:
        first = least(rows, told, known)
        second = least(rows, told, first)
        if found and found[-1] == (first, second):
            return found
        found.append((first, second))
        known = second


def answers(rows, many, told):
    """Point 52, a list of words."""
    upper, lower = runs(rows, told)[-1]
    return ["true" if fact in lower else "open" if fact in upper else "false" for fact in range(many)]


def papers(rows, many, told):
    """Point 62."""
    rounds = runs(rows, told)
    found = []
    for fact, answer in enumerate(answers(rows, many, told)):
        if fact in told:
            found.append(("true", 0, 0, None))
        elif answer == "true":
            turn = min(turn for turn, pair in enumerate(rounds, 1) if fact in pair[1])
            (place,) = [(step, row) for came, step, row in ranked(rows, told, rounds[turn - 1][0]) if came == fact]
            found.append(("true", turn) + place)
        elif answer == "false":
            found.append(("false", min(turn for turn, pair in enumerate(rounds, 1) if fact not in pair[0])))
        else:
            (place,) = [(step, row) for came, step, row in ranked(rows, told, rounds[-1][1]) if came == fact]
            found.append(("open",) + place)
    return found


def papers_right(rows, many, told, told_papers):
    """Point 63, of a list of as many papers, all of their right forms."""
    def ahead(turn, step):
        return {fact for fact, paper in enumerate(told_papers)
                if paper[0] == "true" and (paper[1] < turn or (paper[1] == turn and paper[2] < step))}

    def false_by(turn):
        return {fact for fact, paper in enumerate(told_papers) if paper[0] == "false" and paper[1] <= turn}

    every = set(range(many))
    true = {fact for fact in every if told_papers[fact][0] == "true"}
    false = {fact for fact in every if told_papers[fact][0] == "false"}

    def right(fact, paper):
        own = [conds for head, conds in rows if head == fact]
        if paper[0] == "true" and paper[3] is None:
            return fact in told
        if paper[0] == "true":
            return all(carried(cond, ahead(*paper[1:3]), every - false_by(paper[1])) for cond in rows[paper[3]][1])
        if fact in told:
            return False
        if paper[0] == "false":
            lesser = {other for other in true if told_papers[other][1] < paper[1]}
            return all(any(blocked(cond, lesser, every - false_by(paper[1])) for cond in conds) for conds in own)
        if any(all(carried(cond, true, every - false) for cond in conds) for conds in own):
            return False
        lesser = {other for other in every - true - false if told_papers[other][1] < paper[1]}
        return all(carried(cond, true | lesser, true) for cond in rows[paper[2]][1])

    return all(right(fact, paper) for fact, paper in enumerate(told_papers))


def worlds(rows, many, told):
    """Point 71: all worlds, as whole numbers, rising."""
    return [bits for bits in range(1 << many) if least(rows, told, facts_in(bits)) == facts_in(bits)]


def narrow(rows, told, sure, may):
    """Point 72, of Python sets."""
    while True:
        more = sure | least(rows, told, may)
        less = may & least(rows, told, more)
        if more - less or (more, less) == (sure, may):
            return more, less
        sure, may = more, less


def tree(rows, told):
    """Point 73, the whole tree."""
    def node(sure, may):
        sure, may = narrow(rows, told, sure, may)
        if sure - may:
            return ("broken", min(sure - may))
        if sure == may:
            return ("world", bits_of(sure))
        fact = min(may - sure)
        return ("split", fact, node(sure | {fact}, may), node(sure, may - {fact}))

    upper, lower = runs(rows, told)[-1]
    return node(lower, upper)


def text_kind(fact):
    """The kind of a fact that is told as a text (82)."""
    return (fact.split(" ")[0], fact.count(" "))


def asked(text, fact):
    """Points 82 to 85, of a book's text and a fact's: (answer, wants), or the refusal's name and count."""
    lines = text.split("\n")
    things = lines[0].split(" ")[1:]
    said = {line[4:] for line in lines if line.startswith("say ")}
    rules = [line for line in lines if line.startswith("rule ")]
    heads = [line.removeprefix("rule ").split(" if ")[0] for line in rules]
    full = {text_kind(head) for head in heads}
    every = {line: list(line_instances(line, things)) for line in rules}
    wants = {fact: None}
    done = []
    counted = 0
    instances = []
    while len(done) < len(wants):
        wanted = list(wants)[len(done)]
        done.append(wanted)
        fitting = [(line, head) for line, head in zip(rules, heads)
                   if wanted in [told for told, _ in every[line]]]
        counted += sum(len(things) ** len([name for name in line_variables(line) if name not in head.split(" ")])
                       for line, head in fitting)
        if counted > 400:
            return "TooManyRows", counted
        for line, _ in fitting:
            for head, conds in every[line]:
                bare = [cond for cond in conds if text_kind(cond_texts(cond)[0]) not in full]
                if head == wanted and all(carried(cond, said, said) for cond in bare):
                    rest = [cond for cond in conds if cond not in bare]
                    for new in [new for cond in rest for new in cond_texts(cond)]:
                        if new not in wants and len(wants) == 120:
                            return "TooManyFacts", 121
                        wants.setdefault(new, wanted)
                    instances.append((head, rest))
    names = list(wants)
    rows = [(names.index(head), [numbered(cond, names) for cond in conds]) for head, conds in instances]
    told = {names.index(name) for name in said if name in wants}
    return answers(rows, len(names), told)[0], list(wants.items())
