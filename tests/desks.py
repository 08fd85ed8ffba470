"""Desks for the tests, and all that one tells by its rows."""

from taglook.desk import Desk

# The line of d is d, b, c, a. The store tells that c has w softly and a firmly.
DIAMOND_ROWS = [
    "kind a -", "kind b a", "kind c a", "kind d b,c", "kind x -",
    "store c w 1", "store a w 2",
    "site s w 4", "site up w 2 b", "stand p w 3", "thing t d", "put t v -5", "put t w 7", "thing r x",
]
PLACES = ("s", "up", "p")


def desk_of(rows=()):
    desk = Desk()
    for row in rows:
        desk.say(row)
    return desk


def diamond():
    return desk_of(DIAMOND_ROWS)


def names_in(word):
    return [] if word == "-" else word.split(",")


def state(desk):
    """All that the rows tell that ask and show, but for those that read."""
    told = [desk.say(row) for row in ("kinds", "things", "deeds", "done", "reads")]
    for kind in names_in(desk.say("kinds")):
        told += [desk.say(f"{sort} {kind}") for sort in ("elders", "line", "heirs", "rows", "tag")]
        told += [desk.say(f"known {kind} {word}") for word in ("v", "w")]
    for thing in names_in(desk.say("things")):
        told.append(desk.say("own " + thing))
    for place in PLACES:
        try:
            told.append(desk.say("kept " + place))
        except ValueError:
            told.append(None)
    return told
