"""The parts of a sheet, whose facts lean on one another, and what their rings are like."""

from notring.bits import has_fact, members, set_of


def parts_of(sheet):
    """The parts, as tuples of facts, each behind all others on which it leans."""
    leaned = [set_of([leaning[0] for leaning in sheet.leaned(fact)]) for fact in range(sheet.how_many())]
    waiting = parts_by_least(reached_sets(leaned))
    parts = []
    done = 0
    while len(waiting) > 0:
        # By their least facts they stand already, so the first that may come is the one that comes.
        part = [other for other in waiting if is_ready(other, leaned, done)][0]
        parts.append(part)
        done = done | set_of(part)
        waiting = [other for other in waiting if other != part]
    return parts


def reached_sets(leaned):
    """For each fact the set of those to which a walk leads from it, itself among them."""
    reached = [found | (1 << fact) for fact, found in enumerate(leaned)]
    for middle in range(len(reached)):
        reached = [found | reached[middle] if has_fact(found, middle) else found for found in reached]
    return reached


def parts_by_least(reached):
    """The parts, by their least facts."""
    parts = []
    placed = 0
    for fact, found in enumerate(reached):
        if not has_fact(placed, fact):
            part = tuple([other for other in members(found) if has_fact(reached[other], fact)])
            parts.append(part)
            placed = placed | set_of(part)
    return parts


def is_ready(part, leaned, done):
    """Whether the part leans on itself and on what is done alone."""
    known = done | set_of(part)
    return all([(leaned[fact] & ~known) == 0 for fact in part])


def ring_of(sheet, part):
    """What the rings of the part are like: plain, ayes, even with its sides, odd with a walk."""
    inner = inner_leanings(sheet, part)
    lacks = []
    for fact in part:
        lacks.extend([lack for other, lack in inner[fact]])
    if len(lacks) == 0:
        return ("plain",)
    if not any(lacks):
        return ("ayes",)
    came = sides_reached(inner, part[0])
    if (part[0], 1) in came:
        return odd_walk(came, part[0])
    return ("even", tuple([1 if (fact, 1) in came else 0 for fact in part]))


def inner_leanings(sheet, part):
    """For each fact of the part its leanings on facts of the part."""
    inner = {}
    for fact in part:
        inner[fact] = [leaning for leaning in sheet.leaned(fact) if leaning[0] in part]
    return inner


def sides_reached(inner, first):
    """The pairs (fact, side) to which walks lead from the first fact, each with the pair it was reached from.

    The side is 1 behind an odd number of lacks. Each pair is reached once, by a shortest walk, so a walk to
    any pair has fewer steps than there are pairs, which is twice as many as there are facts.
    """
    came = {(first, 0): None}
    queue = [(first, 0)]
    place = 0
    while place < len(queue):
        pair = queue[place]
        place = place + 1
        for fact, lack in inner[pair[0]]:
            other = (fact, 1 - pair[1] if lack else pair[1])
            if other not in came:
                came[other] = pair
                queue.append(other)
    return came


def odd_walk(came, first):
    """The walk from the first fact back to itself that has an odd number of lacks."""
    back = []
    last = (first, 1)
    while last is not None:
        back.append(last)
        last = came[last]
    pairs = list(reversed(back))
    walk = tuple([pair[0] for pair in pairs])
    lacks = tuple([one[1] != other[1] for one, other in zip(pairs, pairs[1:])])
    return ("odd", walk, lacks)
