"""The refusals of the program: each is made of its fields and keeps them."""

DEEPEST = 8


# A refusal keeps what was handed in as it was then, so lists and dicts within it are copied.
# Whatever is handed in may hold itself, so the copying stops at a depth.
def own_copy(thing, depth=0):
    if depth == DEEPEST:
        return thing
    if isinstance(thing, list):
        return [own_copy(part, depth + 1) for part in thing]
    if isinstance(thing, tuple):
        return tuple([own_copy(part, depth + 1) for part in thing])
    if isinstance(thing, dict):
        return dict([(key, own_copy(part, depth + 1)) for key, part in thing.items()])
    return thing


class LookError(ValueError):
    pass


class NoName(LookError):
    def __init__(self, name):
        self.name = own_copy(name)
        LookError.__init__(self, self.name)


class Twice(LookError):
    def __init__(self, name):
        self.name = own_copy(name)
        LookError.__init__(self, self.name)


class NoKind(LookError):
    def __init__(self, name):
        self.name = own_copy(name)
        LookError.__init__(self, self.name)


class TooMany(LookError):
    def __init__(self, most):
        self.most = own_copy(most)
        LookError.__init__(self, self.most)


class Heired(LookError):
    def __init__(self, name, heir):
        self.name = own_copy(name)
        self.heir = own_copy(heir)
        LookError.__init__(self, self.name, self.heir)


class Loop(LookError):
    def __init__(self, ring):
        self.ring = own_copy(list(ring))
        LookError.__init__(self, self.ring)


class Ring(LookError):
    def __init__(self, steps):
        self.steps = own_copy(list(steps))
        LookError.__init__(self, self.steps)


class Tangled(LookError):
    def __init__(self, name, steps):
        self.name = own_copy(name)
        self.steps = own_copy(list(steps))
        LookError.__init__(self, self.name, self.steps)


class NoStrength(LookError):
    def __init__(self, value):
        self.value = own_copy(value)
        LookError.__init__(self, self.value)


class NotThere(LookError):
    def __init__(self, name):
        self.name = own_copy(name)
        LookError.__init__(self, self.name)


class NoRoom(LookError):
    def __init__(self, value):
        self.value = own_copy(value)
        LookError.__init__(self, self.value)


class NoThing(LookError):
    def __init__(self, name):
        self.name = own_copy(name)
        LookError.__init__(self, self.name)


class NoOwn(LookError):
    def __init__(self, word):
        self.word = own_copy(word)
        LookError.__init__(self, self.word)


class NoSite(LookError):
    def __init__(self, name):
        self.name = own_copy(name)
        LookError.__init__(self, self.name)


class NothingBack(LookError):
    def __init__(self):
        LookError.__init__(self)


class NoRow(LookError):
    def __init__(self, place):
        self.place = own_copy(place)
        LookError.__init__(self, self.place)
