"""Clocks: a cell's time, whether each step is kept, and papers that tell how many hands a clock needs."""

from clockhouse.bundles import bundle_steps, is_bundle
from clockhouse.houses import along, steps_of
from clockhouse.knots import all_steps, lie_in_one


def time_of(clock, cell):
    """A tuple of the knot of a cell's desk and one number for each hand."""
    name, place = cell
    knot, hands = clock[name]
    return tuple([knot] + [along(row, place) + hour for row, hour in hands])


def is_kept(clock, step):
    """Whether at every place the time of the step's name is later than that of the cell read."""
    name, other, away = step
    knot, hands = clock[name]
    read_knot, read_hands = clock[other]
    if knot != read_knot:
        return knot > read_knot
    for (row, hour), (read_row, read_hour) in zip(hands, read_hands):
        if row != read_row:
            # Along some direction the two times part, so at places far enough off the read one is the later.
            return False
        later = hour - read_hour - along(row, away)
        if later != 0:
            return later > 0
    return False


def first_late(house, clock):
    """The number of the first step that a clock doesn't keep, or None."""
    for number, step in enumerate(steps_of(house)):
        if not is_kept(clock, step):
            return number
    return None


def paper_holds(house, paper):
    """Whether a tuple of amounts is a paper: each a bundle within one knot of the steps of the one ahead."""
    around = all_steps(house)
    for amounts in paper:
        if not is_bundle(house, amounts):
            return False
        some = bundle_steps(amounts)
        if not all([number in around for number in some]) or not lie_in_one(house, some, around):
            return False
        around = some
    return True
