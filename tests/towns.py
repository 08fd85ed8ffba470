"""Towns for the tests: small ones, all that one tells, and the document's words of them written anew."""

from taglook.town import Town

from tests import eldersets
from tests.tellers import Teller

WORDS = ("v", "w")


def town_of(elders, facts=None):
    """A town of these kinds, its teller telling these facts; told are both."""
    teller = Teller(facts)
    town = Town(teller)
    for name, others in elders.items():
        town.add(name, others)
    return town, teller


def state(town):
    """All that a town tells without reading."""
    kinds = town.kinds()
    told = [
        (town.elders_of(name), town.line(name), town.heirs(name), town.tag(name), town.facts.words_known(name))
        for name in kinds
    ]
    known = [town.known(name, word) for name in kinds for word in WORDS]
    return (kinds, told, known, town.reads(), town.deeds(), town.house.kinds(), town.facts.reads())


class PlainTown:
    """What a town tells of deeds that are not refused, by comparing all that was ahead with all that is behind."""

    def __init__(self, facts):
        self.teller = facts
        self.elders = {}
        self.known = {}
        self.tags = {}
        self.reads = []
        self.deeds = 0

    def lines(self):
        return {name: eldersets.line_in_words(self.elders, name) for name in self.elders}

    def has_lines(self, elders):
        return not eldersets.has_loop(elders) and not eldersets.tangled_in_words(elders)

    def add(self, name, others, at):
        order = list(self.elders)
        order.insert(len(order) if at is None else at, name)
        return self.deed(eldersets.reordered({**self.elders, name: others}, order), self.known)

    def drop(self, name):
        elders = {kind: others for kind, others in self.elders.items() if kind != name}
        return self.deed(elders, {fact: one for fact, one in self.known.items() if fact[0] != name})

    def shift(self, turns, facts):
        known = dict(self.known)
        for kind, word, one in facts:
            known[(kind, word)] = one
        return self.deed({**self.elders, **dict(turns)}, {fact: one for fact, one in known.items() if one is not None})

    def deed(self, elders, known):
        lines_ahead, known_ahead = self.lines(), self.known
        self.elders, self.known = elders, known
        self.deeds += 1
        lines = self.lines()
        touched = [
            name for name in elders
            if name not in lines_ahead or lines[name] != lines_ahead[name] or any(
                fact[0] in lines_ahead[name] and known.get(fact) != one for fact, one in known_ahead.items()
            )
        ]
        self.tags = {name: self.deeds if name in touched else self.tags[name] for name in elders}
        return touched

    def look(self, kind, word, start=None):
        line = self.lines()[kind]
        rest = line if start is None else line[line.index(start) + 1:]
        passed = []
        for one in rest:
            if self.read(one, word) != 0:
                return (tuple(passed), one, self.read(one, word))
            passed.append(one)
        return (tuple(passed), None, 0)

    def read(self, kind, word):
        if (kind, word) not in self.known:
            self.reads.append((kind, word))
            self.known[(kind, word)] = self.teller.get((kind, word), 0)
        return self.known[(kind, word)]


class PlainSite:
    """What a site tells and keeps."""

    def __init__(self, town, word, room, start):
        self.town, self.word, self.room, self.start = town, word, room, start
        self.entries = []

    def ask(self, kind):
        kept = {one: (paper, tag) for one, paper, tag in self.entries}
        tag = self.town.tags[kind]
        paper = self.town.look(kind, self.word, self.start)
        if kind in kept and kept[kind][1] == tag:
            way = "same"
        else:
            way = "held" if kind in kept and kept[kind][0] == paper else "anew"
        self.entries = [entry for entry in self.entries if entry[0] != kind] + [(kind, paper, tag)]
        if len(self.entries) > self.room:
            self.entries.pop(0)
        return (paper, way)

    def fallen(self):
        lines, told = self.town.lines(), []
        for kind, paper, tag in self.entries:
            if kind in lines and (self.start is None or self.start in lines[kind]):
                begin = 0 if self.start is None else lines[kind].index(self.start) + 1
                place = self.first_wrong(lines[kind][begin:], paper)
                if place is not None:
                    told.append((kind, place))
        return told

    def first_wrong(self, line, paper):
        """The first place at which the paper is wrong, facts that are not known being as the paper has them."""
        passed, found, told = paper
        rows = [(kind, 0) for kind in passed] + [(found, told)]
        for place, (kind, one) in enumerate(rows):
            here = line[place] if place < len(line) else None
            if here != kind or (kind is not None and self.town.known.get((kind, self.word), one) != one):
                return place
        return None


class PlainThings:
    """What things tell: each has a kind and a dict of own words; rows of words have numbers as they come."""

    def __init__(self, town):
        self.town = town
        self.made = {}
        self.rows = [[]]

    def shape_of(self, name):
        row = list(self.made[name][1])
        if row not in self.rows:
            self.rows.append(row)
        return self.rows.index(row)

    def put(self, name, word, value):
        self.made[name][1][word] = value
        self.shape_of(name)

    def take(self, name, word):
        self.made[name][1].pop(word)
        self.shape_of(name)


class PlainStand:
    """What a place of asking of things tells and keeps."""

    def __init__(self, things, word, room):
        self.things, self.word, self.room = things, word, room
        self.entries = []

    def ask(self, name):
        kind, own = self.things.made[name]
        key, tag = (kind, self.things.shape_of(name)), self.things.town.tags[kind]
        kept = [entry for entry in self.entries if entry[0] == key]
        paper = self.things.town.look(kind, self.word)
        is_own = self.word in own and paper[2] != 2
        answer = ("own", list(own).index(self.word)) if is_own else ("kind", paper)
        if kept and kept[0][3] == tag:
            way = "same"
        else:
            way = "held" if kept and kept[0][1:3] == (answer, paper) else "anew"
        self.entries = [entry for entry in self.entries if entry[0] != key] + [(key, answer, paper, tag)]
        if len(self.entries) > self.room:
            self.entries.pop(0)
        return (answer, way)
