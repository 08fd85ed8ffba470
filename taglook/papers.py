"""Papers: the kinds of a line that were passed over for a word, and the one that was found."""

from taglook.errors import NotThere
from taglook.names import is_whole


def is_strength(thing):
    return is_whole(thing, 0, 2)


def paper_of(line, word, strength):
    passed = []
    for kind in line:
        one = strength(kind, word)
        if one != 0:
            return (tuple(passed), kind, one)
        passed.append(kind)
    return (tuple(passed), None, 0)


def rest_behind(line, start):
    if start not in line:
        raise NotThere(start)
    return line[line.index(start) + 1:]


def found_all(line, word, strength):
    return [kind for kind in line if strength(kind, word) != 0]


# Strengths are asked only of kinds that the line and the paper both have at that place.
def wrong_at(line, word, strength, paper):
    passed = paper[0]
    for place, kind in enumerate(passed):
        if line[place:place + 1] != [kind] or strength(kind, word) != 0:
            return place
    return None if is_right_end(line[len(passed):], word, strength, paper) else len(passed)


def is_right_end(rest, word, strength, paper):
    found = paper[1]
    if found is None:
        return not rest and paper[2] == 0
    return rest[:1] == [found] and paper[2] != 0 and strength(found, word) == paper[2]


def is_paper(line, word, strength, paper):
    return has_form(paper) and wrong_at(line, word, strength, paper) is None


def has_form(thing):
    if not isinstance(thing, tuple) or len(thing) != 3 or not isinstance(thing[0], tuple):
        return False
    if not all([isinstance(kind, str) for kind in thing[0]]) or not is_strength(thing[2]):
        return False
    return thing[1] is None or isinstance(thing[1], str)
