"""Foretelling: which kept papers of a site are right no more, now or behind a shift."""

from taglook.papers import rest_behind, wrong_at
from taglook.town import tell_all


def fallen(site):
    return fallen_by(site, site.town.house, site.town.facts)


def foretold(site, turns, facts):
    site.town.may_shift(turns, facts)
    house = site.town.house.copied()
    house.turn_all(turns)
    store = site.town.facts.copied()
    tell_all(store, facts)
    return fallen_by(site, house, store)


def fallen_by(site, house, store):
    told = []
    for kind, paper, tag in site.kept():
        line = line_for(site, house, kind)
        if line is not None:
            place = wrong_at(line, site.word, strength_by(store, paper), paper)
            if place is not None:
                told.append((kind, place))
    return told


# None where the site could not be asked of the kind.
def line_for(site, house, kind):
    if kind not in house.kinds():
        return None
    line = house.line(kind)
    if site.start is None:
        return line
    return rest_behind(line, site.start) if site.start in line else None


# Nothing may be read here: what is not known counts as the paper has it.
def strength_by(store, paper):
    def strength(kind, word):
        one = store.known(kind, word)
        if one is not None:
            return one
        return paper[2] if kind == paper[1] else 0
    return strength
