"""Reckoning by need: a lot's numbers or a ring in it, and what a cell needs."""

from clockhouse.errors import Ring
from clockhouse.houses import waits_for
from clockhouse.lots import cell_worth


def waits_within(house, lot):
    """A dict from each cell of a lot, in its order, to a list of those cells of the lot that it waits for."""
    inside = {cell: True for cell in lot}
    return {cell: [other for other in waits_for(house, cell) if other in inside] for cell in lot}


def readers_of(waits):
    """A dict from each cell to a list of the cells that wait for it."""
    readers = {cell: [] for cell in waits}
    for cell, others in waits.items():
        for other in others:
            readers[other].append(cell)
    return readers


def due_order(waits):
    """A list of cells, each behind all those that it waits for; those that come to a ring are left out."""
    readers = readers_of(waits)
    missing = {cell: len(others) for cell, others in waits.items()}
    order = [cell for cell in waits if missing[cell] == 0]
    done = 0
    while done < len(order):
        cell = order[done]
        for reader in readers[cell]:
            missing[reader] -= 1
            if missing[reader] == 0:
                order.append(reader)
        done += 1
    return order


def ring_among(waits, order):
    """A ring among the cells that an order leaves out: a list, empty where it leaves none out."""
    done = {cell: True for cell in order}
    left = [cell for cell in waits if cell not in done]
    if not left:
        return []
    path = []
    cell = left[0]
    # Each cell that is left waits for one that is left, else it would stand in the order: so the walk comes round.
    while cell not in path:
        path.append(cell)
        cell = [other for other in waits[cell] if other not in done][0]
    return path[path.index(cell):]


def waits_and_order(house, lot):
    """(waits, order) of a lot: which of its cells each one waits for, and all of them, each behind those; refused with
    Ring where cells of the lot wait for one another."""
    waits = waits_within(house, lot)
    order = due_order(waits)
    ring = ring_among(waits, order)
    if ring:
        raise Ring(ring)
    return (waits, order)


def reckoned(house, lot, rim):
    """("told", numbers), a list in the lot's order; or, just where there is one, ("ring", cells)."""
    try:
        waits, order = waits_and_order(house, lot)
    except Ring as e:
        return ("ring", e.cells)
    numbers = {}
    for cell in order:
        numbers[cell] = cell_worth(house, rim, numbers, cell)
    return ("told", [numbers[cell] for cell in lot])


def come_to(starts, links):
    """A dict of all cells that are come to from some, these too, by links: a dict from cells to lists of the next."""
    found = {cell: True for cell in starts}
    due = list(starts)
    while due:
        cell = due.pop()
        for other in links[cell]:
            if other not in found:
                found[other] = True
                due.append(other)
    return found


def needed(house, lot, cell):
    """A list, in the lot's order, of the cells that are come to from a cell by waiting within the lot, itself too."""
    found = come_to([cell], waits_within(house, lot))
    return [inner for inner in lot if inner in found]


def outer_readers(house, lot):
    """A dict from each cell outside a lot that cells of it wait for to a list of these."""
    inside = {cell: True for cell in lot}
    readers = {}
    for cell in lot:
        for other in waits_for(house, cell):
            if other not in inside:
                readers.setdefault(other, []).append(cell)
    return readers
