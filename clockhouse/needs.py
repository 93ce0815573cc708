"""Reckoning by need: a lot's numbers or a ring in it, and what a cell needs."""

from clockhouse.houses import waits_for
from clockhouse.lots import cell_worth


def waits_within(house, lot):
    """A dict from each cell of a lot, in its order, to a list of those cells of the lot that it waits for."""
    inside = {cell: True for cell in lot}
    return {cell: [other for other in waits_for(house, cell) if other in inside] for cell in lot}


def readers_of(waits):
    """A dict from each cell to a list of the cells that wait for it."""
    readers = {cell: [] for cell in waits}
    for cell, others in waits.items():
        for other in others:
            readers[other].append(cell)
    return readers


def due_order(waits):
    """A list of cells, each behind all those that it waits for; those that come to a ring are left out."""
    readers = readers_of(waits)
    missing = {cell: len(others) for cell, others in waits.items()}
    order = [cell for cell in waits if missing[cell] == 0]
    done = 0
    while done < len(order):
        cell = order[done]
        for reader in readers[cell]:
            missing[reader] -= 1
            if missing[reader] == 0:
                order.append(reader)
        done += 1
    return order


def ring_among(waits, order):
    """A ring among the cells that an order leaves out: a list, empty where it leaves none out."""
    done = {cell: True for cell in order}
    left = [cell for cell in waits if cell not in done]
    if not left:
        return []
    path = []
    cell = left[0]
    # Each cell that is left waits for one that is left, else it would stand in the order: so the walk comes round.
    while cell not in path:
        path.append(cell)
        cell = [other for other in waits[cell] if other not in done][0]
    return path[path.index(cell):]


def reckoned(house, lot, rim):
    """("told", numbers), a list in the lot's order; or, just where there is one, ("ring", cells)."""
    waits = waits_within(house, lot)
    order = due_order(waits)
    ring = ring_among(waits, order)
    if ring:
        return ("ring", ring)
    numbers = {}
    for cell in order:
        numbers[cell] = cell_worth(house, rim, numbers, cell)
    return ("told", [numbers[cell] for cell in lot])


def needed(house, lot, cell):
    """A list, in the lot's order, of the cells that are come to from a cell by waiting within the lot, itself too."""
    waits = waits_within(house, lot)
    found = {cell: True}
    due = [cell]
    while due:
        one = due.pop()
        for other in waits[one]:
            if other not in found:
                found[other] = True
                due.append(other)
    return [inner for inner in lot if inner in found]
