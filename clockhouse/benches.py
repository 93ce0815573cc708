"""Benches: plans of lots by a pace and a direction, and what was made led back to cells."""

from clockhouse.bundles import gain
from clockhouse.errors import NoWay
from clockhouse.houses import along, steps_of
from clockhouse.lots import rim_number
from clockhouse.needs import outer_readers


def without(numbers, way):
    """A place, or a row, without a direction's number."""
    return numbers[:way] + numbers[way + 1:]


def work_of(cell, row, hours, way):
    """(beat, bench, name) of a cell."""
    name, place = cell
    return (along(row, place) + hours[name], without(place, way), name)


def cell_of(work, row, hours, way):
    """The cell whose (beat, bench, name) a work is."""
    beat, bench, name = work
    # What the beat has beyond the hour and the bench's part comes of the direction that the bench lacks.
    left = beat - hours[name] - along(without(row, way), bench)
    return (name, bench[:way] + (left // row[way],) + bench[way:])


def wires_of(house, row, hours, way):
    """A tuple of (name, other, shift, delay) for each step of a house, in order."""
    wires = []
    for number, (name, other, away) in enumerate(steps_of(house)):
        wires.append((name, other, without(away, way), gain(house, number, row, hours)))
    return tuple(wires)


def plan_of(house, lot, rim, row, hours, way):
    """(works, wires, feeds) of a lot and a rim, by a pace and a direction; refused with NoWay where the pace's row is 0
    there."""
    if row[way] == 0:
        raise NoWay()
    works = sorted([work_of(cell, row, hours, way) for cell in lot])
    outside = outer_readers(house, lot)
    feeds = sorted([work_of(cell, row, hours, way) + (rim_number(house, rim, cell),) for cell in outside])
    return (tuple(works), wires_of(house, row, hours, way), tuple(feeds))


def led_back(made, row, hours, way):
    """A dict from the cells that were made, a list of (beat, bench, name, number), to their numbers."""
    return {cell_of((beat, bench, name), row, hours, way): number for beat, bench, name, number in made}
