"""Rows of names merged to one order, and the rings that show where there is none."""

from taglook.errors import Ring
from taglook.names import is_whole


def merged(rows):
    # Rows that run out of names stay in their places: a ring speaks of the places as handed in.
    left = [list(row) for row in rows]
    order = []
    while any(left):
        name = free_name(left)
        if name is None:
            raise Ring(ring_among(left))
        order.append(name)
        # A free name stands at the head of a row or not in it at all.
        left = [row[1:] if row[:1] == [name] else row for row in left]
    return order


def free_name(left):
    for row in left:
        if row and place_behind(left, row[0]) is None:
            return row[0]
    return None


def place_behind(left, name):
    for place, row in enumerate(left):
        if name in row[1:]:
            return place
    return None


# Asked only where no head is free: each head then stands behind another head,
# so going from head to head must come back to one that was met.
def ring_among(left):
    heads = [row[0] for row in left if row]
    name = heads[0]
    met = []
    steps = []
    while name not in met:
        met.append(name)
        place = place_behind(left, name)
        steps.append((left[place][0], name, place))
        name = left[place][0]
    return list(reversed(steps[met.index(name):]))


def is_merged(rows, told):
    try:
        order = merged(rows)
    except Ring:
        return False
    return order == told


def is_ring(rows, steps):
    if len(steps) < 2 or not all([is_claim(rows, step) for step in steps]):
        return False
    ones = [step[0] for step in steps]
    others = [step[1] for step in steps]
    return others == ones[1:] + ones[:1] and len(set(ones)) == len(ones)


def is_claim(rows, step):
    if not isinstance(step, tuple) or len(step) != 3:
        return False
    if not isinstance(step[0], str) or not isinstance(step[1], str) or not is_whole(step[2], 0, len(rows) - 1):
        return False
    row = rows[step[2]]
    return step[0] in row and step[1] in row and row.index(step[0]) < row.index(step[1])
