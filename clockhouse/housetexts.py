"""Texts of houses: written, and read again."""

from clockhouse.errors import NoText
from clockhouse.houses import look_house
from clockhouse.rules import SIGNS, is_name, parts_of

FIGURES = "0123456789"
MOST_FIGURES = 10
MOST_ROW_FIGURES = 3


def show_house(house):
    """The one text of a house."""
    ways, wheel, desks = house
    rows = [f"house {ways} {wheel}"]
    for name, rule in desks:
        rows.append(" ".join(["desk", name] + [part_word(part) for part in parts_of(rule)]))
    return "\n".join(rows)


def part_word(part):
    """The word that a part of a rule has, ahead of those of the parts within it."""
    if part[0] == "num":
        return str(part[1])
    if part[0] == "at":
        return part[1] + "@" + ",".join([str(number) for number in part[2]])
    return part[1] if part[0] == "op" else "if"


def read_house(text):
    """The house that a text is of; refused with NoText, then with NoHouse."""
    rows = text.split("\n")
    ways, wheel = read_top(rows[0])
    if len(rows) == 1:
        raise NoText(1)
    desks = [read_desk(row, at) for at, row in enumerate(rows) if at > 0]
    house = (ways, wheel, tuple(desks))
    look_house(house)
    return house


def read_top(row):
    """The numbers (ways, wheel) of the row of the house."""
    words = row.split(" ")
    if len(words) != 3 or words[0] != "house":
        raise NoText(0)
    if not is_number(words[1], MOST_FIGURES) or not is_number(words[2], MOST_FIGURES):
        raise NoText(0)
    return (int(words[1]), int(words[2]))


def read_desk(row, at):
    """The desk (name, rule) of a row whose number is at."""
    words = row.split(" ")
    if len(words) < 3 or words[0] != "desk" or not is_name(words[1]):
        raise NoText(at)
    rule = read_rule(words[2:])
    if rule is None:
        raise NoText(at)
    return (words[1], rule)


def read_rule(words):
    """The rule whose words these are, or None."""
    # From the last word to the first, so that a sign finds its parts on the pile, its first one on top: a text may
    # have more signs in a row than calls may go down.
    pile = []
    for word in reversed(words):
        part = read_part(word, pile)
        if part is None:
            return None
        pile.append(part)
    return pile[0] if len(pile) == 1 else None


def read_part(word, pile):
    """The rule that a word begins, its parts taken from the pile; None where there is none."""
    if word == "if":
        return ("if", pile.pop(), pile.pop(), pile.pop()) if len(pile) >= 3 else None
    if word in SIGNS:
        return ("op", word, pile.pop(), pile.pop()) if len(pile) >= 2 else None
    if is_number(word, MOST_FIGURES):
        return ("num", int(word))
    return read_at(word)


def read_at(word):
    """The read that a word is, or None."""
    name, mark, numbers = word.partition("@")
    words = numbers.split(",")
    if not is_name(name) or not all([is_row_number(number) for number in words]):
        return None
    return ("at", name, tuple([int(number) for number in words]))


def is_number(word, most):
    """Whether a word is a number in figures, of at most so many, no nought ahead of others."""
    if not 1 <= len(word) <= most or not all([sign in FIGURES for sign in word]):
        return False
    return len(word) == 1 or word[0] != "0"


def is_row_number(word):
    """Whether a word is a number as rows have it."""
    if word.startswith("-"):
        return word != "-0" and is_number(word[1:], MOST_ROW_FIGURES)
    return is_number(word, MOST_ROW_FIGURES)
