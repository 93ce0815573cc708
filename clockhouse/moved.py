"""Houses moved and turned, their cells and clocks carried along, and houses put side by side."""

from clockhouse.errors import NoHouse, NoTurn
from clockhouse.houses import MOST_DESKS, MOST_STEPS, along, led, steps_of
from clockhouse.rules import reads, with_rows


def moved(house, offsets):
    """The house in which each cell lies as far off as its name's offset, a row, tells."""
    ways, wheel, desks = house
    return (ways, wheel, tuple([(name, moved_rule(name, rule, offsets)) for name, rule in desks]))


def moved_rule(name, rule, offsets):
    """The rule of a name in a house moved by offsets."""
    back = tuple([-number for number in offsets[name]])
    return with_rows(rule, [led(led(row, offsets[other]), back) for other, row in reads(rule)])


def moved_cell(cell, offsets):
    """What a cell is in a house moved by offsets."""
    name, place = cell
    return (name, led(place, offsets[name]))


def moved_clock(clock, offsets):
    """The clock by which each moved cell has the time that it had."""
    return {name: (knot, moved_hands(hands, offsets[name])) for name, (knot, hands) in clock.items()}


def moved_hands(hands, offset):
    """The hands of a desk moved by an offset."""
    return tuple([(row, hour - along(row, offset)) for row, hour in hands])


def turned(house, table):
    """The house whose places and rows are led by a table; refused with NoTurn where not each place is come to once."""
    look_table(table)
    ways, wheel, desks = house
    return (ways, wheel, tuple([(name, turned_rule(rule, table)) for name, rule in desks]))


def turned_rule(rule, table):
    """A rule whose rows are led by a table."""
    return with_rows(rule, [led_by(table, row) for other, row in reads(rule)])


def turned_cell(cell, table):
    """What a cell is in a house turned by a table."""
    name, place = cell
    return (name, led_by(table, place))


def turned_clock(clock, table):
    """The clock by which each turned cell has the time that it had; refused like a turned house."""
    look_table(table)
    rows_table = table_of_rows(table)
    return {name: (knot, turned_hands(hands, rows_table)) for name, (knot, hands) in clock.items()}


def turned_hands(hands, table):
    """The hands whose rows are led by a table."""
    return tuple([(led_by(table, row), hour) for row, hour in hands])


def led_by(table, numbers):
    """A place, or a row, led by a table."""
    return tuple([along(line, numbers) for line in table])


def look_table(table):
    """Refuse a table by which a house can't be turned."""
    if determinant(table) not in (1, -1):
        raise NoTurn()


def determinant(table):
    """The determinant of a table of as many rows as each has numbers; of none it is 1."""
    if not table:
        return 1
    return sum([number * signed_minor(table, 0, at) for at, number in enumerate(table[0])])


def signed_minor(table, line, at):
    """The determinant of what is left of a table without a row and a place of each, below 0 by turns."""
    left = [row[:at] + row[at + 1:] for row in table[:line] + table[line + 1:]]
    return determinant(left) if (line + at) % 2 == 0 else -determinant(left)


def table_of_rows(table):
    """The table that leads a hand's row so that its sum with each place led by the other table stays."""
    # The signed minors, divided by the determinant: as this is 1 or -1, one may as well multiply.
    sign = determinant(table)
    places = list(range(len(table)))
    return tuple([tuple([sign * signed_minor(table, line, at) for at in places]) for line in places])


def beside(one, other):
    """The house of the desks of one and then of the other; refused with NoHouse."""
    if one[0] != other[0]:
        raise NoHouse("ways", "")
    if one[1] != other[1]:
        raise NoHouse("wheel", "")
    if len(one[2]) + len(other[2]) > MOST_DESKS:
        raise NoHouse("desks", "")
    names = [name for name, rule in one[2]]
    for name, rule in other[2]:
        if name in names:
            raise NoHouse("name", name)
    house = (one[0], one[1], one[2] + other[2])
    if len(steps_of(house)) > MOST_STEPS:
        raise NoHouse("steps", "")
    return house
