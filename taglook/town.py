"""A town: kinds with their lines, what is known of their words, and the tags that deeds leave."""

from taglook.errors import NoName, NoStrength, Twice
from taglook.facts import Facts
from taglook.house import House
from taglook.names import is_name
from taglook.papers import is_strength, paper_of, rest_behind


class Town:
    def __init__(self, teller):
        self.house = House()
        self.facts = Facts(teller)
        self.tags = {}
        self.last_deed = 0

    def add(self, name, elders, at=None):
        self.house.add(name, elders, at)
        return self.count_deed([name])

    def drop(self, name):
        self.house.drop(name)
        for word in self.facts.words_known(name):
            self.facts.forget(name, word)
        self.tags.pop(name)
        return self.count_deed([])

    def shift(self, turns, facts):
        self.may_shift(turns, facts)
        ahead = [(name, self.line(name)) for name in self.kinds()]
        self.house.turn_all(turns)
        # What becomes known touches nothing: only a known fact can become another or be doubted.
        changed = [kind for kind, word, one in facts if self.facts.known(kind, word) not in (None, one)]
        tell_all(self.facts, facts)
        return self.count_deed([
            name for name, line in ahead
            if line != self.line(name) or any([kind in changed for kind in line])
        ])

    def may_shift(self, turns, facts):
        self.house.may_turn(turns)
        spoken_of = []
        for kind, word, one in facts:
            self.check_fact(kind, word)
            if one is not None and not is_strength(one):
                raise NoStrength(one)
            if (kind, word) in spoken_of:
                raise Twice(word)
            spoken_of.append((kind, word))

    def kinds(self):
        return self.house.kinds()

    def elders_of(self, name):
        return self.house.elders_of(name)

    def line(self, name):
        return self.house.line(name)

    def heirs(self, name):
        return self.house.heirs(name)

    def tag(self, name):
        self.house.check_kind(name)
        return self.tags[name]

    def deeds(self):
        return self.last_deed

    def known(self, kind, word):
        self.check_fact(kind, word)
        return self.facts.known(kind, word)

    def look(self, kind, word, start=None):
        self.check_fact(kind, word)
        line = self.line(kind)
        if start is not None:
            line = rest_behind(line, start)
        return paper_of(line, word, lambda one, asked: self.facts.strength(one, asked))

    def reads(self):
        return self.facts.reads()

    def check_fact(self, kind, word):
        self.house.check_kind(kind)
        if not is_name(word):
            raise NoName(word)

    def count_deed(self, touched):
        self.last_deed += 1
        for name in touched:
            self.tags[name] = self.last_deed
        return touched


def tell_all(store, facts):
    for kind, word, one in facts:
        if one is None:
            store.forget(kind, word)
        else:
            store.tell(kind, word, one)
