"""What a name is: of kinds, of things, of words; and what a whole number is."""

LETTERS = "abcdefghijklmnopqrstuvwxyz"
MOST_LETTERS = 8


def is_name(thing):
    if not isinstance(thing, str):
        return False
    return 1 <= len(thing) <= MOST_LETTERS and all([sign in LETTERS for sign in thing])


def is_whole(thing, least, most):
    # A truth is an int to Python, but no whole number here.
    if isinstance(thing, bool) or not isinstance(thing, int):
        return False
    return least <= thing <= most
