"""Loops of elders: kinds that lead back to themselves."""


# Each kind stands behind all its elders here; kinds that lead to a loop are left out.
def elders_first(elders):
    order = []
    ready = ready_kinds(elders, order)
    while ready:
        order.extend(ready)
        ready = ready_kinds(elders, order)
    return order


def ready_kinds(elders, order):
    return [name for name in elders if name not in order and all([elder in order for elder in elders[name]])]


def loop_of(elders):
    order = elders_first(elders)
    left = [name for name in elders if name not in order]
    if not left:
        return None
    # Each kind that is left has an elder that is left, so going from elder to elder must come back to one that was met.
    met = []
    name = left[0]
    while name not in met:
        met.append(name)
        name = [elder for elder in elders[name] if elder in left][0]
    return met[met.index(name):]


def is_loop(elders, ring):
    if not ring or len(set(ring)) != len(ring):
        return False
    return all([has_elder(elders, name, elder) for name, elder in zip(ring, ring[1:] + ring[:1])])


def has_elder(elders, name, elder):
    return name in elders and elder in elders[name]
