"""Bundles of steps that come to nought, hands by which steps gain, and which of both there is."""

from clockhouse.houses import along, steps_of
from clockhouse.knots import lie_in_one
from clockhouse.sayings import weighed


def names_of(house):
    """A list of the names of a house's desks."""
    return [name for name, rule in house[2]]


def step_saying(house, step):
    """The factors of a hand's row and of the desks' hours in a step's gain."""
    name, other, row = step
    hours = [(1 if desk == name else 0) - (1 if desk == other else 0) for desk in names_of(house)]
    return tuple([-number for number in row] + hours)


def is_bundle(house, amounts):
    """Whether amounts, one for each step, are a bundle."""
    if not any([amount > 0 for amount in amounts]) or any([amount < 0 for amount in amounts]):
        return False
    sayings = [step_saying(house, step) for step in steps_of(house)]
    # The same factors tell both: the rows turned about, and at each desk what goes out less what goes in.
    return all([along(amounts, [saying[at] for saying in sayings]) == 0 for at in range(len(sayings[0]))])


def bundle_steps(amounts):
    """A tuple of the numbers of a bundle's steps."""
    return tuple([number for number, amount in enumerate(amounts) if amount > 0])


def hangs_together(house, amounts):
    """Whether one can come from each desk of a bundle's steps to each other one along its steps."""
    some = bundle_steps(amounts)
    return lie_in_one(house, some, some)


def gain(house, number, row, hours):
    """How much later a step's name is, by a hand, than the other in the room that is read."""
    name, other, away = steps_of(house)[number]
    return hours[name] - hours[other] - along(row, away)


def bundle_or_hand(house, some, number):
    """("bundle", amounts), of some steps alone and above 0 at the number's; or ("hand", row, hours), let by for some
    steps and with a gain from 1 on at the number's."""
    steps = steps_of(house)
    word, told = weighed([step_saying(house, steps[one]) for one in some], some.index(number))
    if word == "amounts":
        amounts = dict(zip(some, told))
        return ("bundle", tuple([amounts.get(one, 0) for one in range(len(steps))]))
    ways = house[0]
    return ("hand", tuple(told[:ways]), dict(zip(names_of(house), told[ways:])))
