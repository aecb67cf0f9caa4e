"""What is a name, and what is a variable."""

SMALL_LETTERS = "abcdefghijklmnopqrstuvwxyz"
CAPITAL_LETTERS = "ABCDEFGHIJKLMNOPQRSTUVWXYZ"
KEPT_WORDS = ("things", "say", "rule", "if", "not", "many", "first")
LONGEST_NAME = 6


def is_name(thing):
    """Whether the thing is a text of 1 to 6 small letters that is no kept word."""
    if not isinstance(thing, str):
        return False
    if len(thing) < 1 or len(thing) > LONGEST_NAME:
        return False
    if thing in KEPT_WORDS:
        return False
    return all([sign in SMALL_LETTERS for sign in thing])


def is_variable(thing):
    """Whether the thing is a text of one capital letter."""
    if not isinstance(thing, str):
        return False
    # The length goes first: a row of several letters is "in" the alphabet, too.
    return len(thing) == 1 and thing in CAPITAL_LETTERS
