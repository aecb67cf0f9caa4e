"""What several tests hand in."""


def letter_words(many):
    """Names of two letters, as many as asked for, none of them kept."""
    letters = "abcdefghij"
    return [one + other for one in letters for other in letters][:many]


def deep(thing, depth):
    """The thing within lists, tuples and dicts, depth of them in one another."""
    for level in range(depth):
        thing = ([thing], (thing,), {"a": thing})[level % 3]
    return thing


# Handed in where a text is asked for, and a refusal or a plain no is promised for all else.
NO_TEXTS = [
    None, True, False, 0, 1, -1, 6, 10 ** 99, -(10 ** 99),
    [], (), {}, ["a"], ("a",), {"a": "a"}, {"a": True}, [None], ("A",), ["A", "A"],
    ["things a"], ("things a", "say p a"), {"things": "a"}, [[["things a"]]],
    deep("a", 20), deep("A", 19), deep([], 18), deep("things a", 20), deep(10 ** 99, 20),
]
