"""Words of the desk's rows, read and written."""

from taglook.names import is_name

FIGURES = "0123456789"
MOST_FIGURES = 60
STRENGTHS = {"0": 0, "1": 1, "2": 2}


def read_row(text):
    return tuple(text.split(" "))


def read_name(word):
    return word if is_name(word) else None


def read_names(word):
    if word == "-":
        return []
    names = word.split(",")
    return names if all([is_name(name) for name in names]) else None


def read_whole(word):
    figures = word[1:] if word.startswith("-") else word
    if not 1 <= len(figures) <= MOST_FIGURES or not all([sign in FIGURES for sign in figures]):
        return None
    if figures.startswith("0") and word != "0":
        return None
    return int(word)


def read_strength(word):
    return STRENGTHS.get(word)


def read_turn(word):
    parts = word.split(":")
    if len(parts) != 2 or not is_name(parts[0]):
        return None
    names = read_names(parts[1])
    return None if names is None else (parts[0], names)


def read_fact(word):
    parts = word.split("=")
    names = parts[0].split(".")
    if len(parts) != 2 or len(names) != 2 or not all([is_name(name) for name in names]):
        return None
    one = read_strength(parts[1])
    return None if one is None and parts[1] != "?" else (names[0], names[1], one)


def read_paper(word):
    parts = word.split(">")
    ends = parts[-1].split("=")
    if len(parts) != 2 or len(ends) != 2:
        return None
    passed = read_names(parts[0])
    strength = read_strength(ends[1])
    if passed is None or strength is None or not (ends[0] == "-" or is_name(ends[0])):
        return None
    return (tuple(passed), None if ends[0] == "-" else ends[0], strength)


def show_names(names):
    return ",".join(names) if names else "-"


def show_paper(paper):
    passed = show_names(paper[0])
    found = "-" if paper[1] is None else paper[1]
    strength = paper[2]
    return f"{passed}>{found}={strength}"
