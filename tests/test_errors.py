"""The refusals of clockhouse.errors."""

import unittest

from clockhouse.errors import (
    Early, HouseError, Loose, NoCell, NoHouse, NoName, NoRow, NoText, NoTurn, NoWay, Ring, TooLong,
)

FIELDS = {
    NoHouse: ("word", "name"),
    NoText: ("row",),
    Loose: (),
    TooLong: ("many",),
    Ring: ("cells",),
    Early: ("cell",),
    NoWay: (),
    NoTurn: (),
    NoCell: ("cell",),
    NoRow: (),
    NoName: ("name",),
}
THINGS = ("wheel", "", None, 0, -7, 10**5000, ("a", (1, 2)), (), {"a": [1]}, True, False, ([1], {}), object())


def made(kind, thing):
    return kind(*[thing for field in FIELDS[kind]])


class Kinds(unittest.TestCase):
    def test_there_are_eleven(self):
        self.assertEqual(len(FIELDS), 11)

    def test_each_is_a_house_error_and_a_value_error(self):
        for kind in FIELDS:
            self.assertIsInstance(made(kind, "a"), HouseError)
            self.assertIsInstance(made(kind, "a"), ValueError)

    def test_none_stands_under_another(self):
        for kind in FIELDS:
            others = [other for other in FIELDS if other != kind]
            self.assertEqual(len(others), 10)
            for other in others:
                self.assertNotIsInstance(made(kind, "a"), other)

    def test_each_is_raised_and_taken_by_each_of_its_names(self):
        for kind in FIELDS:
            for name in (kind, HouseError, ValueError):
                with self.assertRaises(name):
                    raise made(kind, "a")

    def test_house_error_is_made_of_nothing(self):
        self.assertIsInstance(HouseError(), ValueError)
        self.assertEqual(vars(HouseError()), {})
        for kind in FIELDS:
            self.assertNotIsInstance(HouseError(), kind)

    def test_each_is_made_of_just_so_many_things(self):
        for kind, fields in FIELDS.items():
            with self.assertRaises(TypeError):
                kind(*["a" for field in fields], "a")
            if fields:
                with self.assertRaises(TypeError):
                    kind(*["a" for field in fields[1:]])


class Fields(unittest.TestCase):
    def test_each_field_bears_the_very_thing(self):
        for kind, fields in FIELDS.items():
            for thing in THINGS:
                error = made(kind, thing)
                self.assertEqual(set(vars(error)), set(fields))
                for field in fields:
                    self.assertIs(getattr(error, field), thing)

    def test_word_and_name_in_their_order(self):
        error = NoHouse("wheel", "")
        self.assertEqual((error.word, error.name), ("wheel", ""))

    def test_a_list_is_kept_as_it_was(self):
        for kind, fields in FIELDS.items():
            for field in fields:
                things = ["a", ("b", (0,)), None]
                error = made(kind, things)
                self.assertIsInstance(getattr(error, field), list)
                things.append("c")
                things[0] = "d"
                self.assertEqual(getattr(error, field), ["a", ("b", (0,)), None])

    def test_the_list_kept_is_the_errors_own(self):
        for kind, fields in FIELDS.items():
            for field in fields:
                things = [1, 2]
                getattr(made(kind, things), field).append(3)
                self.assertEqual(things, [1, 2])

    def test_an_empty_list_stays_a_list(self):
        self.assertEqual(Ring([]).cells, [])

    def test_what_lies_in_a_list_is_kept_as_it_is(self):
        inner, table = [1], {}
        error = Ring([inner, table])
        self.assertIs(error.cells[0], inner)
        self.assertIs(error.cells[1], table)
        inner.append(2)
        self.assertEqual(error.cells, [[1, 2], {}])

    def test_nothing_else_holds_a_list_handed_in(self):
        for kind, fields in FIELDS.items():
            things = ["a"]
            error = made(kind, things)
            words = (str(error), repr(error))
            things.append("b")
            self.assertEqual((str(error), repr(error)), words)


if __name__ == "__main__":
    unittest.main()
