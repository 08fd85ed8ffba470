"""Things: each of a kind of a town, with own words and their values."""

from taglook.errors import NoName, NoOwn, NoThing, TooMany, Twice
from taglook.names import is_name
from taglook.shapes import Shapes

MOST_THINGS = 40
MOST_OWN_WORDS = 12


class Thing:
    def __init__(self, kind):
        self.kind = kind
        self.shape = 0
        # The value at each slot of the shape.
        self.slots = []


class Things:
    def __init__(self, town):
        self.town = town
        self.shapes = Shapes()
        self.made = {}

    def make(self, name, kind):
        if not is_name(name):
            raise NoName(name)
        if name in self.made:
            raise Twice(name)
        if len(self.made) >= MOST_THINGS:
            raise TooMany(MOST_THINGS)
        self.town.house.check_kind(kind)
        self.made[name] = Thing(kind)

    def put(self, name, word, value):
        thing = self.thing(name)
        if not is_name(word):
            raise NoName(word)
        slot = self.shapes.slot_of(thing.shape, word)
        if slot is not None:
            thing.slots[slot] = value
            return
        if len(thing.slots) >= MOST_OWN_WORDS:
            raise TooMany(MOST_OWN_WORDS)
        thing.shape = self.shapes.grown(thing.shape, word)
        thing.slots.append(value)

    def take(self, name, word):
        thing = self.thing(name)
        slot = self.shapes.slot_of(thing.shape, word)
        if slot is None:
            raise NoOwn(word)
        thing.shape = self.shapes.without(thing.shape, word)
        thing.slots.pop(slot)

    def move(self, name, kind):
        thing = self.thing(name)
        self.town.house.check_kind(kind)
        thing.kind = kind

    def drop(self, name):
        self.thing(name)
        self.made.pop(name)

    def names(self):
        return list(self.made)

    def kind_of(self, name):
        return self.thing(name).kind

    def shape_of(self, name):
        return self.thing(name).shape

    def value_at(self, name, slot):
        return self.thing(name).slots[slot]

    def own(self, name):
        thing = self.thing(name)
        return dict(zip(self.shapes.words_of(thing.shape), thing.slots))

    def thing(self, name):
        if name not in self.made:
            raise NoThing(name)
        return self.made[name]
