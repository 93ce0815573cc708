"""Knots: desks that steps lead between, forth and back."""

from clockhouse.houses import steps_of


def all_steps(house):
    """A tuple of the numbers of all steps of a house."""
    return tuple(range(len(steps_of(house))))


def step_ends(house, some):
    """A list of (name, other) for each of some steps."""
    steps = steps_of(house)
    return [(steps[number][0], steps[number][1]) for number in some]


def reached_from(name, ends):
    """A list of the names to which steps of these ends lead from a name, itself with them."""
    reached = [name]
    at = 0
    while at < len(reached):
        for own, other in ends:
            if own == reached[at] and other not in reached:
                reached.append(other)
        at += 1
    return reached


def loose_knots(names, ends):
    """A list of the knots, the one whose first desk stands first ahead."""
    reached = {name: reached_from(name, ends) for name in names}
    knots = []
    for name in names:
        knot = tuple([other for other in names if other in reached[name] and name in reached[other]])
        if knot not in knots:
            knots.append(knot)
    return knots


def is_due(knot, told, ends):
    """Whether all others of a knot's steps stand in it or among the desks told."""
    return all([other in knot or other in told for name, other in ends if name in knot])


def knots_of(house, some):
    """A tuple of all knots of the house's desks by some steps, each behind those that its steps lead to."""
    ends = step_ends(house, some)
    left = loose_knots([name for name, rule in house[2]], ends)
    knots = []
    told = []
    while left:
        knot = [one for one in left if is_due(one, told, ends)][0]
        left.remove(knot)
        knots.append(knot)
        told.extend(knot)
    return tuple(knots)


def lie_in_one(house, some, around):
    """Whether some steps, one at least, lie within one knot of the steps around."""
    ends = step_ends(house, some)
    first = ends[0][0]
    knot = [one for one in knots_of(house, around) if first in one][0]
    return all([name in knot and other in knot for name, other in ends])
