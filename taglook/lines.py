"""Lines: of each kind the one order of itself and all that its elders lead to."""

from taglook.errors import Loop, Ring, Tangled
from taglook.loops import elders_first, loop_of
from taglook.merging import merged


def lines_of(elders):
    ring = loop_of(elders)
    if ring is not None:
        raise Loop(ring)
    lines = {}
    tangles = {}
    for name in elders_first(elders):
        # A kind with an elder without a line has none either, but it is not the one to be told of.
        if all([elder in lines for elder in elders[name]]):
            try:
                lines[name] = [name] + merged(rows_by(lines, elders[name]))
            except Ring as refusal:
                tangles[name] = refusal.steps
    for name in elders:
        if name in tangles:
            raise Tangled(name, tangles[name])
    return dict([(name, lines[name]) for name in elders])


def rows_by(lines, own_elders):
    return [list(lines[elder]) for elder in own_elders] + [list(own_elders)]
