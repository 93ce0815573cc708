"""Names and rules: what a rule reads, and its worth."""

LETTERS = "abcdefghijklmnopqrstuvwxyz"
LONGEST_NAME = 8
SIGNS = ("+", "-", "*", "min", "max", "rest", "less")
NO_NAMES = ("min", "max", "rest", "less", "if")


def is_name(text):
    """Whether a text is a name that a desk may have."""
    if not 1 <= len(text) <= LONGEST_NAME or text in NO_NAMES:
        return False
    return all([sign in LETTERS for sign in text])


def inner_parts(part):
    """The rules that stand straight within a part of a rule, from left to right."""
    if part[0] == "op":
        return part[2:]
    if part[0] == "if":
        return part[1:]
    return ()


def parts_of(rule):
    """A list of all parts of a rule from left to right, each ahead of the parts within it."""
    parts = []
    # A pile in place of calls: rules from a text may stand deeper within one another than calls may go.
    due = [rule]
    while due:
        part = due.pop()
        parts.append(part)
        due.extend(inner_parts(part)[::-1])
    return parts


def reads(rule):
    """A tuple of (name, row) for each read of a rule, from left to right, each as often as it stands."""
    return tuple([(part[1], part[2]) for part in parts_of(rule) if part[0] == "at"])


def joined(sign, a, b, wheel):
    """The worth of an op of this sign, of the worths a and b."""
    if sign == "+":
        return (a + b) % wheel
    if sign == "-":
        return (a - b) % wheel
    if sign == "*":
        return a * b % wheel
    if sign == "min":
        return min(a, b)
    if sign == "max":
        return max(a, b)
    if sign == "rest":
        return 0 if b == 0 else a % b
    return 1 if a < b else 0


def worth(rule, numbers, wheel):
    """The worth of a rule, by a list of the numbers of its reads from left to right."""
    # From the last part to the first, so that a sign finds the worths of its parts on the pile, its first one on top.
    pile = []
    reads_left = len(numbers)
    for part in reversed(parts_of(rule)):
        if part[0] == "num":
            pile.append(part[1] % wheel)
        elif part[0] == "at":
            reads_left -= 1
            pile.append(numbers[reads_left])
        elif part[0] == "op":
            a, b = pile.pop(), pile.pop()
            pile.append(joined(part[1], a, b, wheel))
        else:
            c, a, b = pile.pop(), pile.pop(), pile.pop()
            pile.append(a if c != 0 else b)
    return pile[0]


def with_rows(rule, rows):
    """The rule with other rows, by a list of those of its reads from left to right."""
    pile = []
    reads_left = len(rows)
    for part in reversed(parts_of(rule)):
        if part[0] == "num":
            pile.append(part)
        elif part[0] == "at":
            reads_left -= 1
            pile.append(("at", part[1], rows[reads_left]))
        elif part[0] == "op":
            pile.append(("op", part[1], pile.pop(), pile.pop()))
        else:
            pile.append(("if", pile.pop(), pile.pop(), pile.pop()))
    return pile[0]
