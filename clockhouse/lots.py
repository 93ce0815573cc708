"""Lots of cells: boxes, the numbers at a rim, and whether numbers are a lot's answer."""

from clockhouse.houses import led, rule_of
from clockhouse.rules import reads, worth


def box(house, sizes):
    """The lot of all cells whose places' numbers are from 0 on and below the sizes."""
    if 0 in sizes:
        # Told at once: the other sizes alone may have far more places than a lot has cells.
        return []
    places = [()]
    for size in sizes:
        places = [place + (number,) for place in places for number in range(size)]
    return [(name, place) for place in places for name, rule in house[2]]


def rim_number(house, rim, cell):
    """The number of a cell outside the lot: the rim's rest by the wheel, 0 where the rim lacks the cell."""
    return rim.get(cell, 0) % house[1]


def number_of(house, rim, numbers, cell):
    """The number of a cell: of numbers, a dict of the lot's cells, where it stands there, else the rim's."""
    return numbers[cell] if cell in numbers else rim_number(house, rim, cell)


def cell_worth(house, rim, numbers, cell):
    """The worth of a cell's rule, of numbers (a dict from the lot's cells that it reads, at least) and the rim."""
    name, place = cell
    rule = rule_of(house, name)
    read = [number_of(house, rim, numbers, (other, led(place, row))) for other, row in reads(rule)]
    return worth(rule, read, house[1])


def fits(house, lot, rim, numbers):
    """Whether numbers, a dict from just the lot's cells, is an answer of the lot."""
    if not all([0 <= numbers[cell] < house[1] for cell in lot]):
        return False
    return all([numbers[cell] == cell_worth(house, rim, numbers, cell) for cell in lot])
