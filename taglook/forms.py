"""The sorts of rows that a desk is told, and the values that a row's words write."""

from taglook.errors import NoRow
from taglook.texts import read_fact, read_name, read_names, read_strength, read_turn, read_whole

# What stands in brackets may be left out; PARTS stands last and for as many parts as there are.
FORMS = {
    "kind": ("KIND", "NAMES", "[AT]"),
    "drop": ("KIND",),
    "shift": ("PARTS",),
    "back": (),
    "store": ("KIND", "WORD", "S"),
    "site": ("SITE", "WORD", "ROOM", "[START]"),
    "stand": ("STAND", "WORD", "ROOM"),
    "thing": ("THING", "KIND"),
    "put": ("THING", "WORD", "VALUE"),
    "take": ("THING", "WORD"),
    "move": ("THING", "KIND"),
    "lose": ("THING",),
    "look": ("KIND", "WORD", "[START]"),
    "ask": ("PLACE", "ASKED"),
    "kept": ("PLACE",),
    "fallen": ("SITE",),
    "foretold": ("SITE", "PARTS"),
    "kinds": (),
    "things": (),
    "elders": ("KIND",),
    "line": ("KIND",),
    "heirs": ("KIND",),
    "rows": ("KIND",),
    "tag": ("KIND",),
    "deeds": (),
    "done": (),
    "known": ("KIND", "WORD"),
    "reads": (),
    "own": ("THING",),
}
WHOLES = ("[AT]", "ROOM", "VALUE")


# None stands for each word that was left out; parts are in one list.
def values_in(words):
    if words[0] not in FORMS:
        raise NoRow(0)
    forms = FORMS[words[0]]
    values = []
    for place in range(1, len(words)):
        value = read_by(form_at(forms, place), words[place])
        if value is None:
            raise NoRow(place)
        values.append(value)
    if len(values) < needed(forms):
        raise NoRow(len(words))
    return filled(forms, values)


def form_at(forms, place):
    if place <= len(forms):
        return forms[place - 1]
    return "PARTS" if "PARTS" in forms else None


# Of no form there is no word, however it is written.
def read_by(form, word):
    if form is None:
        return None
    if form == "NAMES":
        return read_names(word)
    if form in WHOLES:
        return read_whole(word)
    if form == "S":
        return read_strength(word)
    if form == "PARTS":
        return read_part(word)
    return read_name(word)


def read_part(word):
    turn = read_turn(word)
    return read_fact(word) if turn is None else turn


def needed(forms):
    return len([form for form in forms if form != "PARTS" and not form.startswith("[")])


def filled(forms, values):
    if "PARTS" in forms:
        ahead = needed(forms)
        return values[:ahead] + [values[ahead:]]
    return values + [None] * (len(forms) - len(values))
