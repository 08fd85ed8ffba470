"""Elders for the tests, and what DOC.md says of loops and lines in its plainest words, without the program."""

from itertools import product

from tests import rowsets

# Five kinds: b, a is one order, a, b the other, and no line keeps both.
KNOT = {"a": [], "b": [], "c": ["a", "b"], "d": ["b", "a"]}
TANGLE = {**KNOT, "e": ["c", "d"]}
TANGLE_FREE = {**KNOT, "e": []}
DIAMOND = {"a": [], "b": ["a"], "c": ["a"], "d": ["b", "c"]}


def every_elders(names):
    """All elders that these kinds may have, loops among them."""
    for picked in product(rowsets.all_rows(names), repeat=len(names)):
        yield dict(zip(names, picked))


def loopless_elders(names):
    """All elders in which each kind has only kinds that stand ahead of it in names."""
    choices = [rowsets.all_rows(names[:place]) for place in range(len(names))]
    for picked in product(*choices):
        yield {name: list(row) for name, row in zip(names, picked)}


def reached(elders, name):
    """All kinds to which one comes by going to an elder, once or more."""
    met = set()
    ahead = list(elders[name])
    while ahead:
        kind = ahead.pop()
        if kind not in met:
            met.add(kind)
            ahead.extend(elders[kind])
    return met


def has_loop(elders):
    return any(name in reached(elders, name) for name in elders)


def is_loop_in_words(elders, ring):
    if len(ring) == 0 or len(set(ring)) < len(ring) or not set(ring) <= set(elders):
        return False
    return all(ring[(place + 1) % len(ring)] in elders[name] for place, name in enumerate(ring))


def merged_in_words(rows):
    """The rule by which rows are merged, written anew; None where it finds no free name."""
    order = []
    left = rowsets.left_of(rows, order)
    while any(left):
        free = [row[0] for row in left if row and rowsets.free_in(left, row[0])]
        if not free:
            return None
        order.append(free[0])
        left = rowsets.left_of(rows, order)
    return order


def rows_in_words(elders, name):
    """The rows of a kind, None where one of its elders has no line."""
    rows = [line_in_words(elders, elder) for elder in elders[name]] + [list(elders[name])]
    return None if None in rows else rows


def line_in_words(elders, name):
    rows = rows_in_words(elders, name)
    order = None if rows is None else merged_in_words(rows)
    return None if order is None else [name] + order


def tangled_in_words(elders):
    """The kinds that have no line though their elders have, in the order of the keys."""
    return [
        name for name in elders
        if line_in_words(elders, name) is None and rows_in_words(elders, name) is not None
    ]


def reordered(elders, names):
    return {name: list(elders[name]) for name in names}
