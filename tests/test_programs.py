"""Points 1, 15 and 16: programs told, alike and refused; webs made ready."""

import itertools
import unittest

from osier.errors import BadRow, Full
from osier.programs import Program, ready
from osier.webs import Web, read_web

EACH = [
    ("new", "x"),
    ("free", "x"),
    ("copy", "x", "y"),
    ("nil", "x"),
    ("read", "x", "y", "l"),
    ("write", "x", "r", "y"),
    ("clear", "x", "l"),
    ("same", "x", "y", 0),
    ("none", "x", 3),
    ("maybe", 11),
    ("go", 7),
]
GO = ("go", 0)


class Told(unittest.TestCase):
    def test_rows(self):
        program = Program(EACH)
        self.assertEqual(program.row_rows(), EACH)
        self.assertEqual(len(program), 11)
        self.assertEqual(Program(tuple(EACH)).row_rows(), EACH)
        for row in EACH[:-4]:
            self.assertEqual(Program([row]).row_rows(), [row])

    def test_names(self):
        self.assertEqual(Program(EACH).names(), ["x", "y"])
        self.assertEqual(Program([GO]).names(), [])
        self.assertEqual(Program([("maybe", 1)]).names(), [])
        self.assertEqual(Program([("copy", "zz", "a"), ("nil", "m"), ("nil", "a")]).names(), ["a", "m", "zz"])
        self.assertEqual(Program([("read", "l", "r", "l"), ("write", "c", "r", "d")]).names(), ["c", "d", "l", "r"])
        self.assertEqual(Program([("same", "b", "abcdef", 0), ("none", "c", 1)]).names(), ["abcdef", "b", "c"])
        for row, names in zip(EACH, (
            ["x"], ["x"], ["x", "y"], ["x"], ["x", "y"], ["x", "y"], ["x"], ["x", "y"], ["x"], [], [],
        )):
            self.assertEqual(Program([row] + [GO] * 10).names(), names)

    def test_lossy(self):
        self.assertIs(Program(EACH).lossy, False)
        self.assertIs(Program(EACH, lossy=False).lossy, False)
        self.assertIs(Program(EACH, lossy=True).lossy, True)

    def test_how_many_rows(self):
        for many in (1, 2, 23, 24):
            self.assertEqual(len(Program([("nil", "x")] * many)), many)

    def test_told_lists_are_the_askers_own(self):
        program = Program(EACH)
        for told in (program.row_rows(), program.names()):
            self.assertIs(type(told), list)
            told.clear()
        program.row_rows().append(("nil", "z"))
        program.names().append("z")
        self.assertEqual(program.row_rows(), EACH)
        self.assertEqual(program.names(), ["x", "y"])
        self.assertEqual(len(program), 11)
        self.assertTrue(all(type(row) is tuple for row in program.row_rows()))

    def test_lists_handed_in_stay(self):
        rows = list(EACH)
        program = Program(rows)
        self.assertEqual(rows, EACH)
        rows[0] = ("nil", "zz")
        rows.append(("nil", "zz"))
        self.assertEqual(program.row_rows(), EACH)
        self.assertEqual(program.names(), ["x", "y"])

    def test_alike(self):
        self.assertIs(Program(EACH) == Program(tuple(EACH)), True)
        self.assertIs(Program(EACH) != Program(EACH), False)
        self.assertIs(Program(EACH, lossy=True) == Program(EACH, lossy=True), True)
        self.assertIs(Program(EACH) == Program(EACH, lossy=False), True)

    def test_unlike(self):
        program = Program([("nil", "x"), ("nil", "y")])
        for other in (
            Program([("nil", "y"), ("nil", "x")]), Program([("nil", "x")]), Program([("nil", "x")] * 2),
            Program([("nil", "x"), ("nil", "y"), ("nil", "y")]), Program([("nil", "x"), ("nil", "y")], lossy=True),
            None, 2, "nil", [("nil", "x"), ("nil", "y")], (("nil", "x"), ("nil", "y")), Web(), object(),
        ):
            self.assertIs(program == other, False)
            self.assertIs(other == program, False)
            self.assertIs(program != other, True)
            self.assertIs(other != program, True)
        self.assertIs(Program([("go", 0)]) == Program([("go", 1)]), False)


class Refused(unittest.TestCase):
    def refuse(self, rows, number):
        before = list(rows)
        for lossy in (False, True):
            with self.assertRaises(BadRow) as caught:
                Program(rows, lossy=lossy)
            self.assertEqual(caught.exception.number, number, rows)
        self.assertEqual(list(rows), before)

    def test_how_many_rows(self):
        self.refuse([], -1)
        self.refuse((), -1)
        self.refuse([("nil", "x")] * 25, -1)
        self.refuse([("nil", "x")] * 30, -1)
        # Ahead of a wrong row, and of too many names.
        self.refuse([("odd",)] * 25, -1)
        self.refuse([("nil", name) for name in "abcdefghijklmnopqrstuvwxy"], -1)

    def test_words(self):
        for word in ("", "New", "news", "new ", "cell", "jump", "NEW", "l"):
            self.refuse([(word, "x")], 0)
            self.refuse([GO, (word,)], 1)

    def test_a_row_without_a_word(self):
        self.refuse([()], 0)
        self.refuse([GO, GO, ()], 2)
        self.refuse([(), ("odd",)], 0)

    def test_counts_of_places(self):
        for row in EACH:
            for wrong in [row[:count] for count in range(1, len(row))] + [row + (row[-1],), row + ("x",), row + (0,)]:
                self.refuse([GO] * 11 + [wrong], 11)

    def test_names(self):
        for name in ("", "abcdefg", "X", "xY", "x1", "1", "x ", " ", "a-b", "x_y", "-", "*"):
            for row in (
                ("new", name), ("free", name), ("copy", name, "x"), ("copy", "x", name), ("nil", name),
                ("read", name, "x", "l"), ("read", "x", name, "l"), ("write", name, "l", "x"),
                ("write", "x", "l", name), ("clear", name, "l"), ("same", name, "x", 0), ("same", "x", name, 0),
                ("none", name, 0),
            ):
                self.refuse([GO, row], 1)
        self.assertEqual(Program([("new", "abcdef"), ("new", "l"), ("new", "cell")]).names(), ["abcdef", "cell", "l"])

    def test_fields(self):
        for field in ("", "L", "R", "x", "lr", "left", "right", "-", " l"):
            for row in (("read", "x", "y", field), ("write", "x", field, "y"), ("clear", "x", field)):
                self.refuse([GO, GO, row], 2)
        # Places in another order.
        self.refuse([("write", "x", "y", "l")], 0)
        self.refuse([("read", "x", "l", "y")], 0)

    def test_jumps(self):
        for rows in (1, 2, 5, 24):
            for made in (lambda k: ("go", k), lambda k: ("maybe", k), lambda k: ("none", "x", k),
                         lambda k: ("same", "x", "y", k)):
                for jump in (0, rows - 1, rows):
                    told = [made(jump)] + [("nil", "x")] * (rows - 1)
                    self.assertEqual(Program(told).row_rows(), told)
                for jump in (-1, -2, rows + 1, rows + 30):
                    self.refuse([("nil", "x")] * (rows - 1) + [made(jump)], rows - 1)

    def test_places_of_another_kind(self):
        self.refuse([("none", 0, "x")], 0)
        self.refuse([("same", "x", 0, "y")], 0)
        self.refuse([GO, ("go", "x")], 1)
        self.refuse([GO, ("nil", 0)], 1)
        self.refuse([GO, ("clear", "x", 0)], 1)

    def test_the_first_wrong_row(self):
        wrong = [("odd", "x"), ("nil", "X"), ("go", 99), ("clear", "x", "m"), (), ("new",)]
        for one, other in itertools.permutations(wrong, 2):
            self.refuse([GO, one, GO, other], 1)

    def test_how_many_names(self):
        six = [("nil", name) for name in "abcdef"]
        self.assertEqual(Program(six).names(), list("abcdef"))
        self.assertEqual(Program(six + six).names(), list("abcdef"))
        self.refuse(six + [("nil", "g")], -2)
        self.refuse([("copy", "a", "b"), ("copy", "c", "d"), ("copy", "e", "f"), ("copy", "a", "g")], -2)
        self.refuse([("nil", name) for name in "abcdefghijklmnopqrstuvwx"], -2)
        # Behind all wrong rows.
        self.refuse(six + [("nil", "g"), ("go", 9)], 7)
        self.refuse(six + [("nil", "G")], 6)


class Ready(unittest.TestCase):
    def made(self, names, text):
        web = read_web(text)
        told = ready(Program([("nil", name) for name in names] or [GO]), web)
        self.assertEqual(repr(web), text)
        return repr(told)

    def test_names_that_it_lacks(self):
        self.assertEqual(self.made("", "empty"), "empty")
        self.assertEqual(self.made("x", "empty"), "x=-")
        self.assertEqual(self.made("yx", "empty"), "x=- y=-")
        self.assertEqual(self.made("xy", "x=1 1:list()"), "x=1 y=- 1:list()")
        self.assertEqual(self.made("xy", "a=1 y=* 1:cell(1,-)"), "a=1 x=- y=* 1:cell(1,-)")
        self.assertEqual(self.made("xy", "x=1 y=1 1:list()"), "x=1 y=1 1:list()")
        self.assertEqual(self.made("", "x=1 y=1 1:list()"), "x=1 y=1 1:list()")

    def test_six_names(self):
        self.assertEqual(self.made("abcdef", "empty"), "a=- b=- c=- d=- e=- f=-")
        self.assertEqual(self.made("abcdef", "c=1 f=* 1:cell(-,-)"), "a=- b=- c=1 d=- e=- f=* 1:cell(-,-)")
        self.assertEqual(self.made("", "a=- b=- c=- d=- e=- f=-"), "a=- b=- c=- d=- e=- f=-")
        self.assertEqual(self.made("fa", "a=- b=- c=- d=- e=- f=-"), "a=- b=- c=- d=- e=- f=-")

    def test_full(self):
        for names, text in (
            ("g", "a=- b=- c=- d=- e=- f=-"), ("abcdef", "g=-"), ("abcd", "e=1 f=- g=- 1:cell(-,-)"),
            ("fg", "a=- b=- c=- d=- e=- f=-"),
        ):
            with self.assertRaises(Full):
                self.made(names, text)


if __name__ == "__main__":
    unittest.main()
