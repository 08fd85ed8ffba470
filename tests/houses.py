"""Houses for the tests."""

from taglook.house import House


def house_of(elders):
    """A house with these elders, its kinds in the order of the keys, each behind its elders."""
    house = House()
    for name, others in elders.items():
        house.add(name, others)
    return house


def state(house):
    """All that a house tells."""
    kinds = house.kinds()
    told = [(house.elders_of(name), house.line(name), house.rows_of(name), house.heirs(name)) for name in kinds]
    return (kinds, told)


def elders_in(house):
    return {name: house.elders_of(name) for name in house.kinds()}
