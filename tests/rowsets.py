"""Rows for the tests, and what DOC.md says of them in its plainest words, without the program."""

from itertools import combinations, permutations, product


def all_rows(names):
    """Every row of unlike names among these, the empty one first."""
    return [list(row) for length in range(len(names) + 1) for row in permutations(names, length)]


def all_row_lists(names, most):
    """Every list of at most so many rows."""
    rows = all_rows(names)
    for length in range(most + 1):
        for picked in product(rows, repeat=length):
            yield [list(row) for row in picked]


def small_row_lists():
    yield from all_row_lists("abc", 3)
    yield from all_row_lists("abcd", 2)


def names_of(rows):
    return sorted({name for row in rows for name in row})


def keeps(order, row):
    return all(order.index(one) < order.index(other) for one, other in combinations(row, 2))


def orders_of(rows):
    """All orders of some rows, found by trying every list of their names."""
    tried = [list(order) for order in permutations(names_of(rows))]
    return [order for order in tried if all(keeps(order, row) for row in rows)]


def left_of(rows, gone):
    return [[name for name in row if name not in gone] for row in rows]


def free_in(rows, name):
    return not any(name in row and row.index(name) > 0 for row in rows)


def next_by_rule(rows):
    """The first name of the first row whose first name is free."""
    return [row[0] for row in rows if row and free_in(rows, row[0])][0]


def is_claim_in_words(rows, claim):
    one, other, place = claim
    return [one, other] == [name for name in rows[place] if name in (one, other)]


def is_ring_in_words(rows, steps):
    follows = [(steps[k][1], steps[(k + 1) % len(steps)][0]) for k in range(len(steps))]
    return (
        len(steps) >= 2
        and all(is_claim_in_words(rows, claim) for claim in steps)
        and all(other == one for other, one in follows)
        and len({claim[0] for claim in steps}) == len(steps)
    )


def many_names(count):
    return ["n" + "abcdefghijklmnopqrstuvwxyz"[k] for k in range(count)]


def twelve_rows():
    """Twelve rows of 24 names in all, that have an order: each row takes steps through one list."""
    names = many_names(24)
    rows = [names[k::5] for k in range(5)] + [names[k::7] for k in range(7)]
    return list(reversed(rows))
