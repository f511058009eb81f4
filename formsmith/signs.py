"""Signs, the texts made of them, and names and paths."""

SMALL_LETTERS = "abcdefghijklmnopqrstuvwxyz"

# Written out whole, because the order is part of what signs() tells.
SIGNS = "\n !\"#$&'()*+,-./0123456789:;<=>?@ABCDEFGHIJKLMNOPQRSTUVWXYZ[\\]^_`abcdefghijklmnopqrstuvwxyz{|}~"

# Commands are told apart by these words, so no name may be one of them.
COMMAND_WORDS = ("as", "between", "body", "else", "end", "for", "if", "in", "piece", "use", "with")

MOST_LETTERS = 8
MOST_NAMES = 4


def signs():
    return SIGNS


def is_text(thing, most):
    return isinstance(thing, str) and len(thing) <= most and is_made_of(thing, SIGNS)


def is_name(thing):
    if not isinstance(thing, str) or not 1 <= len(thing) <= MOST_LETTERS:
        return False
    return is_made_of(thing, SMALL_LETTERS) and thing not in COMMAND_WORDS


def is_path(thing):
    if not isinstance(thing, tuple) or not 1 <= len(thing) <= MOST_NAMES:
        return False
    return all([is_name(part) for part in thing])


def is_made_of(text, allowed):
    for sign in text:
        if sign not in allowed:
            return False
    return True
