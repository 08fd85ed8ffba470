"""Long rows of deeds and asks, drawn by a seed, against the document's words written anew."""

import unittest
from random import Random

from taglook.asks import ThingSite, value_of
from taglook.errors import LookError, Loop, Tangled
from taglook.foretell import fallen, foretold
from taglook.sites import Site
from taglook.things import Things
from taglook.town import Town

from tests.towns import WORDS, PlainSite, PlainStand, PlainThings, PlainTown, state

NAMES = list("abcdef")
STARTS = [None, None, "a", "c"]
THINGS = ["t", "s", "r"]


class Walk:
    """A town and sites beside their plain twins, led through the same deeds and asks."""

    def __init__(self, case, seed):
        self.case, self.random = case, Random(seed)
        self.store = {}
        self.town, self.plain = Town(lambda kind, word: self.store.get((kind, word), 0)), PlainTown(self.store)
        self.sites = []
        for place, start in enumerate(STARTS):
            word, room = WORDS[place % 2], 1 + place
            self.sites.append((Site(self.town, word, room, start), PlainSite(self.plain, word, room, start)))

    def some(self, things, most):
        return self.random.sample(things, self.random.randint(0, min(most, len(things))))

    def step(self):
        self.random.choice([self.add, self.add, self.drop, self.shift, self.shift, self.shift, self.tell] + [self.ask] * 5)()
        self.check()

    def tell(self):
        self.store[(self.random.choice(NAMES), self.random.choice(WORDS))] = self.random.choice([0, 0, 1, 2])

    def add(self):
        name, elders = self.random.choice(NAMES), self.some(self.town.kinds(), 3)
        at = self.random.choice([None] + list(range(len(self.town.kinds()) + 1)))
        would = {**self.plain.elders, name: elders}
        if name in self.plain.elders:
            self.refused(LookError, self.town.add, name, elders, at)
        elif not self.plain.has_lines(would):
            self.refused(Tangled, self.town.add, name, elders, at)
        else:
            self.case.assertEqual(self.town.add(name, elders, at), self.plain.add(name, elders, at))

    def drop(self):
        name = self.random.choice(NAMES)
        if name not in self.plain.elders or any(name in others for others in self.plain.elders.values()):
            self.refused(LookError, self.town.drop, name)
        else:
            self.case.assertEqual(self.town.drop(name), self.plain.drop(name))

    def shift(self):
        kinds = self.town.kinds()
        turns = [(name, self.some(kinds, 2)) for name in self.some(kinds, 2)]
        pairs = [(kind, word) for kind in kinds for word in WORDS]
        facts = [(kind, word, self.random.choice([0, 0, 1, 2, None])) for kind, word in self.some(pairs, 4)]
        if not self.plain.has_lines({**self.plain.elders, **dict(turns)}):
            self.refused((Loop, Tangled), self.town.shift, turns, facts)
            self.refused((Loop, Tangled), foretold, self.sites[0][0], turns, facts)
        else:
            ahead = [foretold(site, turns, facts) for site, twin in self.sites]
            self.check()
            self.case.assertEqual(self.town.shift(turns, facts), self.plain.shift(turns, facts))
            self.case.assertEqual(ahead, [twin.fallen() for site, twin in self.sites])

    def ask(self):
        site, plain = self.random.choice(self.sites)
        kind = self.random.choice(NAMES)
        if kind not in self.plain.elders or (site.start is not None and site.start not in self.plain.lines()[kind]):
            self.refused(LookError, site.ask, kind)
        else:
            self.case.assertEqual(site.ask(kind), plain.ask(kind))

    def refused(self, errors, call, *handed):
        before = state(self.town)
        with self.case.assertRaises(errors):
            call(*handed)
        self.case.assertEqual(state(self.town), before)

    def check(self):
        town, plain, same = self.town, self.plain, self.case.assertEqual
        same({name: town.elders_of(name) for name in town.kinds()}, plain.elders)
        same(town.kinds(), list(plain.elders))
        same({name: town.line(name) for name in town.kinds()}, plain.lines())
        same({name: town.tag(name) for name in town.kinds()}, plain.tags)
        same(town.deeds(), plain.deeds)
        same(town.reads(), plain.reads)
        for kind in town.kinds():
            for word in WORDS:
                same(town.known(kind, word), plain.known.get((kind, word)))
        for site, twin in self.sites:
            same(site.kept(), twin.entries)
            same(fallen(site), twin.fallen())


class ThingWalk(Walk):
    """The same, with things and places of asking of them."""

    def __init__(self, case, seed):
        Walk.__init__(self, case, seed)
        self.things, self.plain_things = Things(self.town), PlainThings(self.plain)
        self.stands = []
        for place, word in enumerate(WORDS * 2):
            self.stands.append((ThingSite(self.things, word, 1 + place), PlainStand(self.plain_things, word, 1 + place)))

    def step(self):
        if self.random.random() < 0.5:
            Walk.step(self)
        else:
            self.random.choice([self.make, self.put, self.put, self.take, self.lose, self.move] + [self.ask_thing] * 6)()
        self.check()
        self.check_things()

    def make(self):
        name, kind = self.random.choice(THINGS), self.random.choice(NAMES)
        if name in self.plain_things.made or kind not in self.plain.elders:
            self.refused(LookError, self.things.make, name, kind)
        else:
            self.things.make(name, kind)
            self.plain_things.made[name] = (kind, {})

    def put(self):
        name, word, value = self.random.choice(THINGS), self.random.choice("uvw"), self.random.randint(-99, 99)
        if name not in self.plain_things.made:
            self.refused(LookError, self.things.put, name, word, value)
        else:
            self.things.put(name, word, value)
            self.plain_things.put(name, word, value)

    def take(self):
        name, word = self.random.choice(THINGS), self.random.choice("uvw")
        if name not in self.plain_things.made or word not in self.plain_things.made[name][1]:
            self.refused(LookError, self.things.take, name, word)
        else:
            self.things.take(name, word)
            self.plain_things.take(name, word)

    def lose(self):
        name = self.random.choice(THINGS)
        if name not in self.plain_things.made:
            self.refused(LookError, self.things.drop, name)
        else:
            self.things.drop(name)
            self.plain_things.made.pop(name)

    def move(self):
        name, kind = self.random.choice(THINGS), self.random.choice(NAMES)
        if name not in self.plain_things.made or kind not in self.plain.elders:
            self.refused(LookError, self.things.move, name, kind)
        else:
            self.things.move(name, kind)
            self.plain_things.made[name] = (kind, self.plain_things.made[name][1])

    def ask_thing(self):
        stand, plain = self.random.choice(self.stands)
        name = self.random.choice(THINGS)
        if name not in self.plain_things.made or self.plain_things.made[name][0] not in self.plain.elders:
            self.refused(LookError, stand.ask, name)
            return
        told = stand.ask(name)
        self.case.assertEqual(told, plain.ask(name))
        own = self.plain_things.made[name][1]
        value = own[stand.word] if told[0][0] == "own" else told[0][1][1]
        self.case.assertEqual(value_of(self.things, name, told[0]), value)

    def check_things(self):
        things, plain, same = self.things, self.plain_things, self.case.assertEqual
        same(things.names(), list(plain.made))
        same([things.shapes.words_of(number) for number in range(things.shapes.many())], plain.rows)
        for name, (kind, own) in plain.made.items():
            same((things.kind_of(name), things.shape_of(name)), (kind, plain.shape_of(name)))
            same(list(things.own(name).items()), list(own.items()))
        for stand, twin in self.stands:
            same(stand.kept(), twin.entries)


class Walks(unittest.TestCase):
    def test_towns_and_sites(self):
        for seed in range(20):
            walk = Walk(self, seed)
            for unused in range(300):
                walk.step()

    def test_things_and_places_of_asking_of_them(self):
        for seed in range(20):
            walk = ThingWalk(self, 1000 + seed)
            for unused in range(300):
                walk.step()


if __name__ == "__main__":
    unittest.main()
