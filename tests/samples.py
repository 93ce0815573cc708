"""Rules and houses for the tests, the same in every run, and plain second ways of reckoning them."""

SIGNS = ("+", "-", "*", "min", "max", "rest", "less")


def num(n):
    return ("num", n)


def at(name, *row):
    return ("at", name, row)


def op(sign, a, b):
    return ("op", sign, a, b)


def if_(c, a, b):
    return ("if", c, a, b)


def house_of(*desks, ways=1, wheel=10):
    return (ways, wheel, desks)


class Dice:
    """A row of numbers that looks like chance and is the same each time."""

    def __init__(self, seed):
        self.state = seed

    def below(self, bound):
        self.state = (self.state * 6364136223846793005 + 1442695040888963407) % 2**64
        return (self.state >> 33) % bound

    def one_of(self, things):
        return things[self.below(len(things))]


def some_rule(dice, names, ways, depth, most=2):
    """A rule of at most so many parts within one another, rows with numbers to most either way."""
    kind = dice.below(4) if depth > 1 else dice.below(2)
    if kind == 0:
        return num(dice.one_of((0, 1, dice.below(12), dice.below(10**9 + 1), 10**9)))
    if kind == 1:
        return at(dice.one_of(names), *[dice.below(2 * most + 1) - most for way in range(ways)])
    if kind == 2:
        sign = dice.one_of(SIGNS)
        return op(sign, *[some_rule(dice, names, ways, depth - 1, most) for part in range(2)])
    return if_(*[some_rule(dice, names, ways, depth - 1, most) for part in range(3)])


def some_house(dice, most=2):
    """A house whose steps may be too many."""
    ways = 1 + dice.below(3)
    wheel = dice.one_of((2, 3, 10, 997, 10**9))
    names = ("a", "bb", "maxi", "iffy", "zzzzzzzz", "les")[:1 + dice.below(6)]
    return (ways, wheel, tuple([(name, some_rule(dice, names, ways, 3, most)) for name in names]))


def plain_reads(rule):
    """reads, by the words of the document."""
    if rule[0] == "num":
        return []
    if rule[0] == "at":
        return [rule[1:]]
    return [read for part in rule[1 if rule[0] == "if" else 2:] for read in plain_reads(part)]


def plain_worth(rule, numbers, wheel):
    """worth, by the words of the document; takes the numbers it reads out of the list."""
    if rule[0] == "num":
        return rule[1] - rule[1] // wheel * wheel
    if rule[0] == "at":
        return numbers.pop(0)
    if rule[0] == "if":
        c, a, b = [plain_worth(part, numbers, wheel) for part in rule[1:]]
        return b if c == 0 else a
    a, b = [plain_worth(part, numbers, wheel) for part in rule[2:]]
    return {
        "+": (a + b) - (a + b) // wheel * wheel,
        "-": a - b if a >= b else a - b + wheel,
        "*": (a * b) - (a * b) // wheel * wheel,
        "min": sorted([a, b])[0],
        "max": sorted([a, b])[1],
        "rest": 0 if b == 0 else a - a // b * b,
        "less": int(a < b),
    }[rule[1]]


def plain_text(house):
    """show_house, by the words of the document."""
    def word(rule):
        if rule[0] == "num":
            return str(rule[1])
        if rule[0] == "at":
            return rule[1] + "@" + ",".join(map(str, rule[2]))
        head, parts = ("if", rule[1:]) if rule[0] == "if" else (rule[1], rule[2:])
        return " ".join([head] + [word(part) for part in parts])
    return "\n".join(["house " + str(house[0]) + " " + str(house[1])]
                     + ["desk " + name + " " + word(rule) for name, rule in house[2]])
