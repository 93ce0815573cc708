"""clockhouse.board: houses kept by names, and rows of words about them."""

import unittest

from clockhouse.board import Board
from clockhouse.chains import longest
from clockhouse.clockmaker import clock_of
from clockhouse.errors import HouseError, NoHouse, NoName, NoRow, NoText, Ring, TooLong
from clockhouse.housetexts import read_house
from clockhouse.lots import box
from clockhouse.needs import reckoned
from clockhouse.paces import pace_of
from clockhouse.rings import ring_cells, ring_of
from clockhouse.rounds import rounds_of
from tests.samples import (
    Dice, crossed_house, good_house, has_ring, is_ring, mixed, paced_house, plain_hangs, plain_is_bundle, plain_knots,
    plain_reckoned, plain_steps, plain_text, stepped_house, wound_house,
)

SUMS = "house 2 1000 ; desk s + 1 + s@-1,0 s@0,-1"
LINE = "house 1 10 ; desk a + a@-1 1"
TWINS = "house 1 10 ; desk b + a@-1 1 ; desk a - b@0 3"
AGAINST = "house 1 10 ; desk a a@1 ; desk b b@-1"
LOOP = "house 1 10 ; desk a + a@2 a@-1"
PLAIN = "house 1 10 ; desk a 3 ; desk c b@0 ; desk b 4"
ROUNDABOUT = "house 2 10 ; desk a + a@0,1 b@-1,0 ; desk b + b@0,-1 a@0,0"
# Nine hundred and ninety-eight times round by b, and nine hundred and ninety-nine times back.
FAR = "house 1 10 ; desk a + b@999 a@-998 ; desk b a@0"
NAMES = ("s", "line", "twins", "against", "loop", "plain", "round", "far")
TEXTS = (SUMS, LINE, TWINS, AGAINST, LOOP, PLAIN, ROUNDABOUT, FAR)


def full_board():
    board = Board()
    for name, text in zip(NAMES, TEXTS):
        board.say(f"keep {name} {text}")
    return board


def row_text(house):
    return plain_text(house).replace("\n", " ; ")


class Boards(unittest.TestCase):
    def setUp(self):
        self.board = full_board()

    def state(self, board):
        """All that can be asked of the names that the tests keep."""
        return [self.answer(board, f"text {name}") for name in NAMES + ("a", "b", "new", "zzzzzzzz")]

    def answer(self, board, row):
        try:
            told = board.say(row)
        except HouseError as e:
            return (type(e), vars(e))
        self.assertIsInstance(told, str)
        return told

    def assert_refused(self, row, kind, /, **fields):
        """A refusal with just these fields, by which nothing is changed."""
        kept = self.state(self.board)
        with self.assertRaises(kind) as caught:
            self.board.say(row)
        self.assertEqual(vars(caught.exception), fields)
        self.assertEqual(self.state(self.board), kept)

    def assert_said(self, row, told):
        self.assertEqual(self.answer(self.board, row), told)


class Answers(Boards):
    def test_keep_and_text(self):
        self.assert_said("keep new " + LINE, "kept")
        self.assert_said("text new", LINE)
        for name, text in zip(NAMES, TEXTS):
            self.assert_said(f"text {name}", text)

    def test_kept_anew(self):
        self.assert_said("keep line " + SUMS, "kept")
        self.assert_said("text line", SUMS)
        self.assert_said("box line 1 2", "1 2")
        self.assert_said("text s", SUMS)

    def test_a_house_may_be_kept_by_any_name(self):
        for name in ("a", "abcdefgh", "house", "desk", "keep", "box", "iff", "mins", "num"):
            self.assert_said(f"keep {name} {LINE}", "kept")
            self.assert_said(f"text {name}", LINE)

    def test_knots(self):
        self.assert_said("knots s", "s")
        self.assert_said("knots twins", "b,a")
        self.assert_said("knots against", "a b")
        self.assert_said("knots plain", "a b c")
        self.board.say("keep new house 1 10 ; desk a d@0 ; desk b + c@0 a@0 ; desk c b@1 ; desk d 1")
        self.assert_said("knots new", "d a b,c")

    def test_hands(self):
        self.assert_said("hands plain", "clock 0")
        self.assert_said("hands s", "clock 1")
        self.assert_said("hands against", "clock 1")
        self.assert_said("hands round", "clock 2")
        self.assert_said("hands loop", "ring 3")
        self.assert_said("hands far", "ring 2995")

    def test_box(self):
        self.assert_said("box line 5", "1 2 3 4 5")
        self.assert_said("box s 3 2", "1 2 2 5 3 9")
        self.assert_said("box twins 2", "1 8 9 6")
        self.assert_said("box plain 2", "3 4 4 3 4 4")
        self.assert_said("box line 12", "1 2 3 4 5 6 7 8 9 0 1 2")

    def test_a_box_with_a_ring(self):
        self.assert_said("box loop 3", "ring 3")
        self.assert_said("box loop 2", "0 0")
        self.board.say("keep new house 1 10 ; desk a b@0 ; desk b a@0 ; desk c 1")
        self.assert_said("box new 1", "ring 2")
        self.assert_said("box far 99", " ".join(["0"] * 198))

    def test_rounds(self):
        self.assert_said("rounds line 5", "5 5")
        self.assert_said("rounds s 3 4", "6 6")
        self.assert_said("rounds plain 4", "3 2")
        house = read_house(ROUNDABOUT.replace(" ; ", "\n"))
        lot = box(house, (2, 3))
        many = len(rounds_of(lot, clock_of(house)[1]))
        self.assert_said("rounds round 2 3", f"{many} {len(longest(house, lot))}")

    def test_more_rounds_than_the_chain_has_cells(self):
        # The two desks wait for none of one another, but stand in knots of their own.
        self.assert_said("rounds against 4", "8 4")

    def test_pace(self):
        for name in ("s", "line", "twins", "plain"):
            self.assert_said(f"pace {name}", "pace")
        for name in ("against", "loop", "round", "far"):
            self.assert_said(f"pace {name}", "bundle")

    def test_drop(self):
        self.assert_said("drop line", "dropped")
        for row in ("text line", "drop line", "box line 3", "hands line"):
            self.assert_refused(row, NoName, name="line")
        self.assert_said("text s", SUMS)
        self.assert_said("keep line " + SUMS, "kept")
        self.assert_said("text line", SUMS)


class Boxes(Boards):
    def test_no_cells(self):
        self.assert_said("box line 0", "")
        for sizes in ("0 0", "0 99", "99 0", "5 0"):
            self.assert_said("box s " + sizes, "")
            self.assert_said("rounds s " + sizes, "0 0")
        self.assert_said("box loop 0", "")
        self.assert_said("rounds line 0", "0 0")
        self.board.say("keep new house 3 10 ; desk a 1")
        self.assert_said("box new 99 99 0", "")
        self.assert_said("rounds new 99 0 99", "0 0")

    def test_just_three_hundred_cells_and_more(self):
        desks = [f"desk {name} 1" for name in "abcdef"]
        for many, sizes, more in ((1, "3 5 20", "1 7 43"), (3, "10 10", "1 1 99 99"), (4, "75", "76"), (6, "50", "51"),
                                  (1, "4 75", "7 43"), (1, "1 4 75", "7 1 43"), (5, "60", "61"), (6, "2 25", "3 17"),
                                  (1, "6 50", "99 99"), (2, "1 2 75", "99 99 99")):
            ways = len(sizes.split(" "))
            self.board.say(" ; ".join([f"keep new house {ways} 10"] + desks[:many]))
            self.assert_said("box new " + sizes, " ".join(["1"] * 300))
            self.assert_said("rounds new " + sizes, f"{many} 1")
            self.assert_refused("box new " + more, NoRow)
            self.assert_refused("rounds new " + more, NoRow)

    def test_sizes_of_two_figures(self):
        for size in (9, 10, 19, 98, 99):
            self.assert_said(f"box line {size}", " ".join([str((k + 1) % 10) for k in range(size)]))
            self.assert_said(f"rounds line {size}", f"{size} {size}")

    def test_a_nought_ahead(self):
        for size in ("00", "01", "07", "000", "0x"):
            self.assert_refused("box line " + size, NoRow)
            self.assert_refused("rounds line " + size, NoRow)

    def test_three_figures(self):
        for size in ("100", "300", "999", "000", "1000"):
            self.assert_refused("box line " + size, NoRow)
            self.assert_refused("rounds line " + size, NoRow)
        self.assert_refused("box s 100 0", NoRow)

    def test_no_figures(self):
        for size in ("-1", "+1", "a", "1a", "1.", "", "1,", "-0", ";", "1;"):
            self.assert_refused("box line " + size, NoRow)
            self.assert_refused("rounds line " + size, NoRow)

    def test_other_counts_of_sizes(self):
        for word in ("box", "rounds"):
            for row in ("line 1 1", "s 1", "s 1 1 1", "line 0 0", "s 0", "s 0 0 0", "line" + " 1" * 1500, "line" + " 99" * 900):
                self.assert_refused(f"{word} {row}", NoRow)


class NoRows(Boards):
    def test_other_words(self):
        for row in ("", " ", "line", "say line", "Text line", "texts line", "tex line", "text", "keep", "box", "rounds", "drop",
                    "knots", "hands", "pace", "text,line", "keep: line", "TEXT line", "; line", "house 1 10", "keep line"):
            self.assert_refused(row, NoRow)

    def test_names_that_are_none(self):
        for name in ("min", "max", "rest", "less", "if", "A", "Line", "abcdefghi", "a1", "1", "-", "a_b", "a,b", "", "+"):
            for row in ("text {}", "knots {}", "hands {}", "pace {}", "drop {}", "box {} 3", "rounds {} 3", "keep {} " + LINE):
                self.assert_refused(row.replace("{}", name), NoRow)

    def test_too_many_words(self):
        for word in ("text", "knots", "hands", "pace", "drop"):
            for more in (" line", " 3", " ", "  ", " x y"):
                self.assert_refused(f"{word} line{more}", NoRow)

    def test_blanks(self):
        for row in (" text line", "text  line", "text line ", "box  line 3", "box line  3", "box line 3 ", "rounds s 1  1",
                    "  keep new " + LINE, "keep  new " + LINE, "drop line ", " box line 3"):
            self.assert_refused(row, NoRow)

    def test_a_text_without_signs(self):
        self.assert_refused("keep new", NoRow)
        self.assert_refused("keep new ", NoRow)
        self.assert_refused("keep line ", NoRow)

    def test_no_size_at_all(self):
        for word in ("box", "rounds"):
            self.assert_refused(f"{word} line", NoRow)
            self.assert_refused(f"{word} line ", NoRow)
            self.assert_refused(f"{word} new", NoRow)

    def test_a_line_feed(self):
        for row in ("text line\n", "\ntext line", "text\nline", "box line 3\n", "box line\n3", "\n", "drop line\n",
                    "keep new house 1 10\ndesk a 1", "keep new " + LINE + "\n", "keep new\n" + LINE,
                    "keep new \n", "keep new house 1 10 ;\ndesk a 1"):
            self.assert_refused(row, NoRow)


class Kept(Boards):
    def assert_no_text(self, text, row):
        for name in ("new", "line"):
            self.assert_refused(f"keep {name} {text}", NoText, row=row)

    def assert_no_house(self, text, word, name):
        for kept in ("new", "line"):
            self.assert_refused(f"keep {kept} {text}", NoHouse, word=word, name=name)

    def test_no_text(self):
        self.assert_no_text("x", 0)
        self.assert_no_text(" ", 0)
        self.assert_no_text(" " + LINE, 0)
        self.assert_no_text(LINE + " ", 1)
        self.assert_no_text("house 1 10", 1)
        self.assert_no_text("house 1 10 ;", 0)
        self.assert_no_text("house 1 10 ; ", 1)
        self.assert_no_text("house 1 10 desk a 1", 0)
        self.assert_no_text("house 1 10; desk a 1", 0)
        self.assert_no_text("house 1 10 ;desk a 1", 0)
        self.assert_no_text("house 1 10 ; desk a 1 ; desk b", 2)
        self.assert_no_text("house 1 10 ; desk a 1 ; ", 2)
        self.assert_no_text("house 1 10 ; desk a 1 ;", 1)
        self.assert_no_text("house 1 10 ;  ; desk a 1", 1)
        self.assert_no_text("house 1 10 ; ; desk a 1", 1)
        self.assert_no_text(" ; " + LINE, 0)
        self.assert_no_text("house 1 10 ; desk a " + "+ " * 1900 + "1", 1)

    def test_no_house(self):
        self.assert_no_house("house 4 10 ; desk a 1", "ways", "")
        self.assert_no_house("house 1 1 ; desk a 1", "wheel", "")
        self.assert_no_house("house 1 10 ; desk a 1 ; desk a 2", "name", "a")
        self.assert_no_house("house 1 10 ; desk a 1 ; desk b 9999999999", "number", "b")
        self.assert_no_house("house 1 10 ; desk a b@1", "read", "a")
        self.assert_no_house("house 2 10 ; desk a a@1", "row", "a")
        self.assert_no_house("house 1 10" + " ; desk a 1" * 7, "desks", "")
        reads = [" ".join(["+ a@" + str(k) for k in range(8)]) + " 1", " ".join(["+ a@" + str(k) for k in range(9)]) + " 1"]
        self.assert_no_house(f"house 1 10 ; desk a {reads[0]} ; desk b {reads[1]}", "steps", "")

    def test_no_text_ahead_of_no_house(self):
        self.assert_no_text("house 9 10 ; desk a 1 ; desk b", 2)
        self.assert_no_text("house 1 1", 1)

    def test_rows_of_999(self):
        self.assert_said("keep new house 2 10 ; desk a + a@999,-999 1", "kept")
        self.assert_no_text("house 1 10 ; desk a a@1000", 1)


class Orders(Boards):
    def test_no_row_ahead_of_no_name(self):
        self.assert_refused("text new ", NoRow)
        self.assert_refused("box new 100", NoRow)
        self.assert_refused("box new", NoRow)
        self.assert_refused("rounds new 1 07", NoRow)
        self.assert_refused("drop new x", NoRow)
        self.assert_refused("text new\n", NoRow)

    def test_no_name(self):
        for row in ("text new", "knots new", "hands new", "pace new", "drop new", "box new 1", "rounds new 1"):
            self.assert_refused(row, NoName, name="new")
        self.assert_refused("text zzzzzzzz", NoName, name="zzzzzzzz")

    def test_no_name_ahead_of_no_row_of_sizes(self):
        for word in ("box", "rounds"):
            for sizes in ("1 1 1 1", "99 99 99", "1 1", "99 99 99 99 99"):
                self.assert_refused(f"{word} new {sizes}", NoName, name="new")

    def test_no_row_ahead_of_no_text_and_no_house(self):
        for text in ("x", "house 4 10 ; desk a 1", LINE):
            self.assert_refused("keep min " + text, NoRow)
            self.assert_refused("keep new " + text + "\n", NoRow)

    def test_no_row_of_sizes_ahead_of_ring_and_too_long(self):
        for name in ("loop", "far"):
            for sizes in ("1 1", "0 0", "1 1 1"):
                self.assert_refused(f"rounds {name} {sizes}", NoRow)
        self.board.say("keep new house 1 10 ; desk a a@0 ; desk b 1 ; desk c 1 ; desk d 1")
        self.assert_refused("rounds new 76", NoRow)
        self.assert_refused("rounds new 75", Ring, cells=[("a", (0,))])


class NoClock(Boards):
    def rings(self, row):
        with self.assertRaises(Ring) as caught:
            self.board.say(row)
        return caught.exception.cells

    def test_ring(self):
        for size in (0, 1, 2, 3, 99):
            cells = self.rings(f"rounds loop {size}")
            self.assertEqual((len(cells), cells[0]), (3, ("a", (0,))))
        self.board.say("keep new house 2 10 ; desk a b@1,2 ; desk b a@-1,-2")
        cells = self.rings("rounds new 0 0")
        self.assertIn(cells, ([("a", (0, 0)), ("b", (1, 2))], [("b", (0, 0)), ("a", (-1, -2))]))

    def test_too_long(self):
        for size in (0, 1, 99):
            self.assert_refused(f"rounds far {size}", TooLong, many=2995)

    def test_a_ring_told_is_the_askers_own(self):
        first = self.rings("rounds loop 2")
        kept = list(first)
        first.clear()
        self.assertEqual(self.rings("rounds loop 2"), kept)


class Many(Boards):
    def test_houses(self):
        dice = Dice(151)
        words = {}
        for turn in range(300):
            makers = (good_house, stepped_house, wound_house, crossed_house, paced_house)
            house = mixed(dice, dice.one_of(makers)(dice))
            self.assertEqual(self.board.say("keep new " + row_text(house)), "kept")
            self.assert_said("text new", row_text(house))
            knots = plain_knots(house, tuple(range(len(plain_steps(house)))))
            self.assert_said("knots new", " ".join([",".join(knot) for knot in knots]))
            word, told = clock_of(house)
            many = len(told[house[2][0][0]][1]) if word == "clock" else sum(told)
            self.assertTrue(word == "clock" or plain_is_bundle(house, told) and plain_hangs(house, told))
            self.assert_said("hands new", f"{word} {many}")
            self.assert_said("pace new", pace_of(house)[0])
            sizes = [dice.below(4) for way in range(house[0])]
            words[(word, self.assert_box(house, sizes))] = True
            self.assert_rounds(house, sizes)
        self.assertEqual(set(words), {("clock", "told"), ("ring", "told"), ("ring", "ring")})

    def assert_box(self, house, sizes):
        lot = box(house, tuple(sizes))
        row = " ".join(["box new"] + [str(size) for size in sizes])
        if has_ring(house, lot):
            word, cells = reckoned(house, lot, {})
            self.assertTrue(is_ring(house, lot, cells))
            self.assert_said(row, f"ring {len(cells)}")
            return "ring"
        numbers = plain_reckoned(house, lot, {})
        self.assert_said(row, " ".join([str(numbers[cell]) for cell in lot]))
        return "told"

    def assert_rounds(self, house, sizes):
        lot = box(house, tuple(sizes))
        row = " ".join(["rounds new"] + [str(size) for size in sizes])
        word, told = clock_of(house)
        if word == "clock":
            self.assert_said(row, f"{len(rounds_of(lot, told))} {len(longest(house, lot))}")
        elif sum(told) > 2000:
            self.assert_refused(row, TooLong, many=sum(told))
        else:
            self.assert_refused(row, Ring, cells=ring_cells(house, ring_of(house, told), (0,) * house[0]))


class Stays(Boards):
    def test_two_boards_by_turns(self):
        one, two = Board(), Board()
        self.assertEqual(one.say("keep a " + LINE), "kept")
        with self.assertRaises(NoName):
            two.say("text a")
        self.assertEqual(two.say("keep a " + SUMS), "kept")
        self.assertEqual((one.say("text a"), two.say("text a")), (LINE, SUMS))
        self.assertEqual((one.say("box a 2"), two.say("box a 1 2")), ("1 2", "1 2"))
        self.assertEqual(one.say("drop a"), "dropped")
        self.assertEqual(two.say("text a"), SUMS)
        with self.assertRaises(NoName):
            one.say("text a")

    def test_asked_again_the_same_is_told(self):
        rows = [f"{word} {name}" for name in NAMES for word in ("text", "knots", "hands", "pace")]
        rows += ["box s 3 3", "rounds s 3 3", "box loop 3", "rounds loop 3", "rounds far 2", "box s 99 99", "say x", "text q"]
        first = [self.answer(self.board, row) for row in rows]
        again = [self.answer(self.board, row) for row in rows[::-1]]
        self.assertEqual(again[::-1], first)

    def test_a_board_is_empty_at_first(self):
        for name in NAMES:
            with self.assertRaises(NoName):
                Board().say("text " + name)


if __name__ == "__main__":
    unittest.main()
