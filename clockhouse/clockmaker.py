"""Making a clock of as few hands as can be, and the paper that tells it so; or a bundle that hangs together."""

from clockhouse.bundles import bundle_or_hand, bundle_steps, hangs_together, names_of
from clockhouse.knots import all_steps, knots_of, step_ends


def steps_within(house, some, knot):
    """A tuple of those of some steps whose name and other stand in a knot."""
    ends = step_ends(house, some)
    return tuple([number for number, (name, other) in zip(some, ends) if name in knot and other in knot])


def added(ones, others):
    """The sums of two rows of numbers, place by place."""
    return tuple([one + other for one, other in zip(ones, others)])


def bundles_and_hand(house, some):
    """(bundles, row, hours) of some steps: a list of bundles, in which each step lies that lies in any, and a hand with
    gain 0 at these steps and from 1 on at the others."""
    bundles = []
    row = (0,) * house[0]
    hours = {name: 0 for name in names_of(house)}
    for number in some:
        if not any([amounts[number] > 0 for amounts in bundles]):
            told = bundle_or_hand(house, some, number)
            if told[0] == "bundle":
                bundles.append(told[1])
            else:
                row = added(row, told[1])
                hours = {name: hour + told[2][name] for name, hour in hours.items()}
    # A bundle's gains come to nought and none is below 0, so the sum of the hands gains nothing at its steps.
    return (bundles, row, hours)


def all_added(bundles):
    """The sum of bundles, one at least."""
    amounts = bundles[0]
    for more in bundles[1:]:
        amounts = added(amounts, more)
    return amounts


def knots_hands(house, some, knots):
    """("hands", hands, paper) of some knots by some steps: hands a dict from each of their desks to a tuple of the
    hands that it needs, paper of one bundle fewer than the most of these (none for none); or ("ring", amounts)."""
    hands = {}
    paper = ()
    for knot in knots:
        told = knot_hands(house, steps_within(house, some, knot), knot)
        if told[0] == "ring":
            return told
        hands.update(told[1])
        if len(told[2]) > len(paper):
            paper = told[2]
    return ("hands", hands, paper)


def knot_hands(house, some, knot):
    """The same of one knot by some steps within it."""
    if not some:
        return ("hands", {name: () for name in knot}, ())
    bundles, row, hours = bundles_and_hand(house, some)
    if not bundles:
        return ("hands", {name: ((row, hours[name]),) for name in knot}, ())
    amounts = all_added(bundles)
    together = [one for one in bundles + [amounts] if hangs_together(house, one)]
    if together:
        # Any of these would do; but of the least one the ring is the least likely to be too long.
        return ("ring", min(together, key=sum))
    left = bundle_steps(amounts)
    inner = [one for one in knots_of(house, left) if one[0] in knot]
    # The ways round along the steps that are left run square to the row, so each call down has a direction fewer.
    told = knots_hands(house, left, inner)
    if told[0] == "ring":
        return told
    return ("hands", {name: ((row, hours[name]),) + told[1][name] for name in knot}, (amounts,) + told[2])


def house_hands(house):
    """The same of a house's knots by all its steps."""
    some = all_steps(house)
    return knots_hands(house, some, knots_of(house, some))


def clock_of(house):
    """("clock", clock), one that is let by with as few hands as can be; or ("ring", amounts), a bundle that hangs
    together."""
    told = house_hands(house)
    if told[0] == "ring":
        return told
    hands = told[1]
    most = max([len(own) for own in hands.values()])
    blank = ((0,) * house[0], 0)
    clock = {}
    for at, knot in enumerate(knots_of(house, all_steps(house))):
        for name in knot:
            clock[name] = (at, hands[name] + (blank,) * (most - len(hands[name])))
    return ("clock", clock)


def paper_of(house):
    """A paper of as many hands as the told clock has, of a house with a clock."""
    return house_hands(house)[2]
