"""Rounds of a lot by a clock, and the lot run round by round."""

from clockhouse.clocks import time_of
from clockhouse.errors import Early
from clockhouse.lots import cell_worth
from clockhouse.needs import waits_within


def rounds_of(lot, clock):
    """A list of lists, each of the cells with one time in the lot's order, the earlier time first."""
    by_time = {}
    for cell in lot:
        by_time.setdefault(time_of(clock, cell), []).append(cell)
    return [by_time[time] for time in sorted(by_time)]


def turned_about(cells, turn):
    """The cells, one at least, begun at the place of the turn's rest by their count, and then round about."""
    start = turn % len(cells)
    return cells[start:] + cells[:start]


def run_by(house, lot, rim, clock, turn):
    """A list of the numbers in the lot's order, reckoned round by round; refused with Early at the first cell that
    waits for a cell of the lot that was not done yet."""
    waits = waits_within(house, lot)
    numbers = {}
    for cells in rounds_of(lot, clock):
        for cell in turned_about(cells, turn):
            if not all([other in numbers for other in waits[cell]]):
                raise Early(cell)
            numbers[cell] = cell_worth(house, rim, numbers, cell)
    return [numbers[cell] for cell in lot]
