"""A house: kinds in their order, with their elders and their lines."""

from taglook.errors import Heired, NoKind, NoName, TooMany, Twice
from taglook.lines import lines_of, rows_by
from taglook.names import is_name

MOST_KINDS = 12
MOST_ELDERS = 5


class House:
    def __init__(self):
        # The keys of both stand in the order of the kinds; lists within are never changed, only put anew.
        self.elders = {}
        self.lines = {}

    def add(self, name, elders, at=None):
        if not is_name(name):
            raise NoName(name)
        if name in self.elders:
            raise Twice(name)
        if len(self.elders) >= MOST_KINDS:
            raise TooMany(MOST_KINDS)
        self.check_elders(elders)
        order = self.kinds()
        order.insert(len(order) if at is None else at, name)
        self.settle(dict([(kind, list(elders) if kind == name else self.elders[kind]) for kind in order]))

    def drop(self, name):
        self.check_kind(name)
        for kind, elders in self.elders.items():
            if name in elders:
                raise Heired(name, kind)
        self.elders.pop(name)
        self.lines.pop(name)

    def turn_all(self, turns):
        self.may_turn(turns)
        elders = dict(self.elders)
        for name, others in turns:
            elders[name] = list(others)
        self.settle(elders)

    def may_turn(self, turns):
        turned = []
        for name, elders in turns:
            self.check_kind(name)
            if name in turned:
                raise Twice(name)
            self.check_elders(elders)
            turned.append(name)

    def kinds(self):
        return list(self.elders)

    def elders_of(self, name):
        self.check_kind(name)
        return list(self.elders[name])

    def line(self, name):
        self.check_kind(name)
        return list(self.lines[name])

    def rows_of(self, name):
        self.check_kind(name)
        return rows_by(self.lines, self.elders[name])

    def heirs(self, name):
        self.check_kind(name)
        return [kind for kind in self.elders if name in self.lines[kind]]

    def copied(self):
        twin = House()
        twin.elders = dict(self.elders)
        twin.lines = dict(self.lines)
        return twin

    def check_kind(self, name):
        if name not in self.kinds():
            raise NoKind(name)

    def check_elders(self, elders):
        if len(elders) > MOST_ELDERS:
            raise TooMany(MOST_ELDERS)
        for place, elder in enumerate(elders):
            self.check_kind(elder)
            if elder in elders[:place]:
                raise Twice(elder)

    # Lines come first: where they are refused, the house stays as it was.
    def settle(self, elders):
        lines = lines_of(elders)
        self.elders = elders
        self.lines = lines
