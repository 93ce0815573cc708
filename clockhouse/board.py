"""The board: keeps houses by names, and answers rows of words about them."""

from clockhouse.chains import longest
from clockhouse.clockmaker import clock_of
from clockhouse.errors import NoName, NoRow, Ring
from clockhouse.housetexts import is_number, read_house, show_house
from clockhouse.knots import all_steps, knots_of
from clockhouse.lots import box
from clockhouse.needs import reckoned
from clockhouse.paces import pace_of
from clockhouse.rings import ring_cells, ring_of
from clockhouse.rounds import rounds_of
from clockhouse.rules import is_name

ROW_END = " ; "
MOST_SIZE_FIGURES = 2
MOST_CELLS = 300


def say_text(house):
    """A house's text in one row."""
    return show_house(house).replace("\n", ROW_END)


def say_knots(house):
    """A house's knots by all its steps."""
    return " ".join([",".join(knot) for knot in knots_of(house, all_steps(house))])


def say_hands(house):
    """How many hands the told clock has, or what the amounts of the told bundle come to."""
    word, told = clock_of(house)
    if word == "ring":
        return f"ring {sum(told)}"
    first_desk = house[2][0][0]
    return f"clock {len(told[first_desk][1])}"


def say_pace(house):
    """Whether a house keeps one pace."""
    return pace_of(house)[0]


def say_box(house, sizes):
    """The numbers of a box with an empty rim, or how many cells the told ring has."""
    word, told = reckoned(house, box(house, sizes), {})
    if word == "ring":
        return f"ring {len(told)}"
    return " ".join([str(number) for number in told])


def say_rounds(house, sizes):
    """How many rounds a box has by the told clock, and how many cells its longest chain; refused with TooLong or Ring
    where the house has no clock."""
    word, told = clock_of(house)
    if word == "ring":
        raise Ring(ring_cells(house, ring_of(house, told), (0,) * house[0]))
    lot = box(house, sizes)
    return f"{len(rounds_of(lot, told))} {len(longest(house, lot))}"


PLAIN_DEEDS = {"text": say_text, "knots": say_knots, "hands": say_hands, "pace": say_pace}
SIZED_DEEDS = {"box": say_box, "rounds": say_rounds}


def read_row(row):
    """(word, name, rest) of a row, rest a list of the words behind; refused with NoRow."""
    words = row.split(" ")
    if "\n" in row or len(words) < 2 or not is_name(words[1]) or not is_rest(words[0], words[2:]):
        raise NoRow()
    return (words[0], words[1], words[2:])


def is_rest(word, rest):
    """Whether words may stand behind a row's first word and its name."""
    if word == "keep":
        return " ".join(rest) != ""
    if word in SIZED_DEEDS:
        return len(rest) > 0 and all([is_number(size, MOST_SIZE_FIGURES) for size in rest])
    return (word in PLAIN_DEEDS or word == "drop") and not rest


def sizes_of(house, words):
    """The sizes of a box, one for each direction; refused with NoRow, also where it would have too many cells."""
    sizes = tuple([int(word) for word in words])
    many = len(house[2])
    for size in sizes:
        many *= size
    if len(sizes) != house[0] or many > MOST_CELLS:
        raise NoRow()
    return sizes


def answer_of(house, word, rest):
    """The answer to a row about a kept house."""
    if word in SIZED_DEEDS:
        sized_deed = SIZED_DEEDS[word]
        return sized_deed(house, sizes_of(house, rest))
    deed = PLAIN_DEEDS[word]
    return deed(house)


class Board:
    """Keeps houses by names."""

    def __init__(self):
        self.houses = {}

    def say(self, row):
        """The answer to a row, a text; refused with NoRow, NoName, NoText, NoHouse, TooLong or Ring."""
        word, name, rest = read_row(row)
        if word == "keep":
            self.houses[name] = read_house(" ".join(rest).replace(ROW_END, "\n"))
            return "kept"
        if name not in self.houses:
            raise NoName(name)
        if word == "drop":
            self.houses.pop(name)
            return "dropped"
        return answer_of(self.houses[name], word, rest)
