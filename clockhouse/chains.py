"""Chains of a lot: cells each of which waits for the next one."""

from clockhouse.needs import waits_and_order


def longest(house, lot):
    """A longest chain, a list; refused with Ring where cells of the lot wait for one another."""
    waits, order = waits_and_order(house, lot)
    lengths = {}
    for cell in order:
        lengths[cell] = 1 + max([lengths[other] for other in waits[cell]], default=0)
    chain = []
    due = lot
    while due:
        cell = max(due, key=lambda one: lengths[one])
        chain.append(cell)
        due = waits[cell]
    return chain
