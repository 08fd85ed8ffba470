"""Long rows of deeds and asks, drawn by a seed, against the document's words written anew."""

import unittest
from random import Random

from taglook.errors import LookError, Loop, Tangled
from taglook.sites import Site
from taglook.town import Town

from tests.towns import WORDS, PlainSite, PlainTown, state

NAMES = list("abcdef")
STARTS = [None, None, "a", "c"]


class Walk:
    """A town and sites beside their plain twins, led through the same deeds and asks."""

    def __init__(self, case, seed):
        self.case, self.random = case, Random(seed)
        self.store = {}
        self.town, self.plain = Town(lambda kind, word: self.store.get((kind, word), 0)), PlainTown(self.store)
        self.sites = []
        for place, start in enumerate(STARTS):
            word, room = WORDS[place % 2], 1 + place
            self.sites.append((Site(self.town, word, room, start), PlainSite(self.plain, word, room, start)))

    def some(self, things, most):
        return self.random.sample(things, self.random.randint(0, min(most, len(things))))

    def step(self):
        self.random.choice([self.add, self.add, self.drop, self.shift, self.shift, self.shift, self.tell] + [self.ask] * 5)()
        self.check()

    def tell(self):
        self.store[(self.random.choice(NAMES), self.random.choice(WORDS))] = self.random.choice([0, 0, 1, 2])

    def add(self):
        name, elders = self.random.choice(NAMES), self.some(self.town.kinds(), 3)
        at = self.random.choice([None] + list(range(len(self.town.kinds()) + 1)))
        would = {**self.plain.elders, name: elders}
        if name in self.plain.elders:
            self.refused(LookError, self.town.add, name, elders, at)
        elif not self.plain.has_lines(would):
            self.refused(Tangled, self.town.add, name, elders, at)
        else:
            self.case.assertEqual(self.town.add(name, elders, at), self.plain.add(name, elders, at))

    def drop(self):
        name = self.random.choice(NAMES)
        if name not in self.plain.elders or any(name in others for others in self.plain.elders.values()):
            self.refused(LookError, self.town.drop, name)
        else:
            self.case.assertEqual(self.town.drop(name), self.plain.drop(name))

    def shift(self):
        kinds = self.town.kinds()
        turns = [(name, self.some(kinds, 2)) for name in self.some(kinds, 2)]
        pairs = [(kind, word) for kind in kinds for word in WORDS]
        facts = [(kind, word, self.random.choice([0, 0, 1, 2, None])) for kind, word in self.some(pairs, 4)]
        if not self.plain.has_lines({**self.plain.elders, **dict(turns)}):
            self.refused((Loop, Tangled), self.town.shift, turns, facts)
        else:
            self.case.assertEqual(self.town.shift(turns, facts), self.plain.shift(turns, facts))

    def ask(self):
        site, plain = self.random.choice(self.sites)
        kind = self.random.choice(NAMES)
        if kind not in self.plain.elders or (site.start is not None and site.start not in self.plain.lines()[kind]):
            self.refused(LookError, site.ask, kind)
        else:
            self.case.assertEqual(site.ask(kind), plain.ask(kind))

    def refused(self, errors, call, *handed):
        before = state(self.town)
        with self.case.assertRaises(errors):
            call(*handed)
        self.case.assertEqual(state(self.town), before)

    def check(self):
        town, plain, same = self.town, self.plain, self.case.assertEqual
        same({name: town.elders_of(name) for name in town.kinds()}, plain.elders)
        same(town.kinds(), list(plain.elders))
        same({name: town.line(name) for name in town.kinds()}, plain.lines())
        same({name: town.tag(name) for name in town.kinds()}, plain.tags)
        same(town.deeds(), plain.deeds)
        same(town.reads(), plain.reads)
        for kind in town.kinds():
            for word in WORDS:
                same(town.known(kind, word), plain.known.get((kind, word)))
        for site, twin in self.sites:
            same(site.kept(), twin.entries)


class Walks(unittest.TestCase):
    def test_towns_and_sites(self):
        for seed in range(20):
            walk = Walk(self, seed)
            for unused in range(300):
                walk.step()


if __name__ == "__main__":
    unittest.main()
