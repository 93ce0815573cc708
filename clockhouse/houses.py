"""Houses: whether one is let by, its steps, and what a cell of it waits for."""

from clockhouse.errors import NoHouse
from clockhouse.rules import is_name, parts_of, reads

MOST_WAYS = 3
LEAST_WHEEL = 2
MOST_WHEEL = 1000000000
MOST_DESKS = 6
MOST_NUMBER = 1000000000
MOST_STEPS = 16


def look_house(house):
    """True of a house that is let by; else refused with NoHouse, the first that is due."""
    ways, wheel, desks = house
    look_frame(ways, wheel, desks)
    names = [name for name, rule in desks]
    for at, (name, rule) in enumerate(desks):
        if not is_name(name) or name in names[:at]:
            raise NoHouse("name", name)
        look_rule(name, rule, names, ways)
    if len(steps_of(house)) > MOST_STEPS:
        raise NoHouse("steps", "")
    return True


def look_frame(ways, wheel, desks):
    """Refuse what is amiss with the house as a whole, ahead of its desks."""
    if not 1 <= ways <= MOST_WAYS:
        raise NoHouse("ways", "")
    if not LEAST_WHEEL <= wheel <= MOST_WHEEL:
        raise NoHouse("wheel", "")
    if not 1 <= len(desks) <= MOST_DESKS:
        raise NoHouse("desks", "")


def look_rule(name, rule, names, ways):
    """Refuse what is amiss first in the rule of the desk called name."""
    for part in parts_of(rule):
        if part[0] == "num" and not 0 <= part[1] <= MOST_NUMBER:
            raise NoHouse("number", name)
        if part[0] == "at" and part[1] not in names:
            raise NoHouse("read", name)
        if part[0] == "at" and len(part[2]) != ways:
            raise NoHouse("row", name)


def desk_steps(name, rule):
    """A list of one desk's steps, each but once, where it stands first."""
    steps = []
    for other, row in reads(rule):
        step = (name, other, row)
        if step not in steps:
            steps.append(step)
    return steps


def steps_of(house):
    """A tuple of the steps (name, other, row) of a house: a step's number is its place there."""
    return tuple([step for name, rule in house[2] for step in desk_steps(name, rule)])


def rule_of(house, name):
    """The rule of the desk called name."""
    return dict(house[2])[name]


def led(place, row):
    """The place to which a row leads from a place."""
    return tuple([number + more for number, more in zip(place, row)])


def along(row, place):
    """The sum of a row's numbers times a place's, or times another row's."""
    return sum([number * other for number, other in zip(row, place)])


def waits_for(house, cell):
    """A list of the cells that a cell waits for, one for each of its desk's steps."""
    name, place = cell
    return [(other, led(place, row)) for own, other, row in desk_steps(name, rule_of(house, name))]
