"""Paces: hands by which each step of a house gains, and how one is bent to a direction."""

from clockhouse.clockmaker import bundles_and_hand
from clockhouse.houses import steps_of
from clockhouse.knots import all_steps


def pace_of(house):
    """("pace", row, hours), a hand with a gain from 1 on at each step; or ("bundle", amounts)."""
    bundles, row, hours = bundles_and_hand(house, all_steps(house))
    return ("bundle", bundles[0]) if bundles else ("pace", row, hours)


def bent(house, row, hours, way):
    """(row, hours) of a pace whose row has a number other than 0 in a direction: the same one where it has."""
    if row[way] != 0:
        return (row, dict(hours))
    # The pace so many times over that a 1 in the direction takes less from each gain than it has.
    times = 1 + max([abs(away[way]) for name, other, away in steps_of(house)], default=0)
    numbers = [times * number for number in row]
    numbers[way] = 1
    return (tuple(numbers), {name: times * hour for name, hour in hours.items()})
