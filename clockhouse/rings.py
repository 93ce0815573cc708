"""Rings: the steps of a bundle one behind the other, and the cells that they lead to."""

from clockhouse.bundles import bundle_steps, hangs_together
from clockhouse.errors import Loose, TooLong
from clockhouse.houses import led, steps_of

LONGEST_RING = 2000


def ring_of(house, amounts):
    """A tuple of steps' numbers, each as often as its amount, each leading to where the next one begins, round about;
    refused with TooLong, then with Loose."""
    many = sum(amounts)
    if many > LONGEST_RING:
        raise TooLong(many)
    if not hangs_together(house, amounts):
        raise Loose()
    steps = steps_of(house)
    ring = []
    left = list(amounts)
    # A walk that goes on while it can ends where it began. Going back over it, whatever was passed by is walked in
    # between; so steps are told from the last to the first.
    path = [take_step(steps, left, steps[bundle_steps(amounts)[0]][0])]
    while path:
        number = take_step(steps, left, steps[path[-1]][1])
        if number is None:
            ring.append(path.pop())
        else:
            path.append(number)
    return tuple(reversed(ring))


def take_step(steps, left, name):
    """The number of the first step out of a desk that is left, taken out of what is left; None without one."""
    for number, step in enumerate(steps):
        if step[0] == name and left[number] > 0:
            left[number] -= 1
            return number
    return None


def ring_cells(house, ring, place):
    """A list of the cells to which a ring's steps lead from a place on, each but once."""
    steps = steps_of(house)
    cell = (steps[ring[0]][0], place)
    cells = {cell: True}
    for number in ring[:-1]:
        name, other, row = steps[number]
        cell = (other, led(cell[1], row))
        cells[cell] = True
    return list(cells)
