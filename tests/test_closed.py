"""Points 19 and 20: whether a table is closed."""

import unittest

from osier.books import Book
from osier.programs import Program
from osier.tables import closed, found_table
from osier.webs import read_web
from samples import BOOK, LET_GO, LISTS, NONE, PART, TREES, WALK, chain, webs

LIST_OR_NONE = ("x=1 1:list()", "x=-")


def rows(*entries):
    return [(row, read_web(text)) for row, text in entries]


class Closed(unittest.TestCase):
    def close(self, book, program, starts, table, wishes=None):
        starts = webs(*starts)
        wishes = None if wishes is None else webs(*wishes)
        before = ([*starts], [*table], repr(wishes), program.row_rows(), book.shape_rows())
        told = closed(book, program, starts, table, wishes=wishes)
        self.assertIs(type(told), bool)
        self.assertEqual((starts, table, repr(wishes), program.row_rows(), book.shape_rows()), before)
        return told

    def test_the_found_table_in_any_order(self):
        for program, starts, wishes in ((WALK, LIST_OR_NONE, LIST_OR_NONE), (LET_GO, LIST_OR_NONE, ["x=-"])):
            word, table = found_table(LISTS, program, webs(*starts), wishes=webs(*wishes))
            self.assertEqual(word, "kept")
            for told in (table, table[::-1], table + table, table[5:] + table[:5]):
                self.assertTrue(self.close(LISTS, program, starts, told, wishes))
                self.assertTrue(self.close(LISTS, program, starts[:1], told, wishes))
                self.assertTrue(self.close(LISTS, program, starts, told))

    def test_an_entry_less(self):
        # No web of this table comes to another one at its row by folds, so each one is needed.
        _, table = found_table(LISTS, LET_GO, webs("x=1 1:list()"))
        self.assertEqual(len(table), 12)
        for at, (row, web) in enumerate(table):
            less = table[:at] + table[at + 1:]
            self.assertEqual(self.close(LISTS, LET_GO, ["x=1 1:list()"], less), False, (row, web))
            self.assertTrue(self.close(LISTS, LET_GO, ["x=1 1:list()"], less + [(row, web)]))

    def test_an_entry_less_that_comes_to_another_one(self):
        table = rows((0, "x=1 1:cell(-,-)"), (0, "x=1 1:list()"), (1, "x=1 1:cell(-,-)"), (1, "x=1 1:list()"))
        program = Program([("go", 1)])
        starts = ["x=1 1:cell(-,-)", "x=1 1:list()"]
        self.assertTrue(self.close(LISTS, program, starts, table))
        self.assertTrue(self.close(LISTS, program, starts, table[1:]))
        self.assertTrue(self.close(LISTS, program, starts, [table[1], table[3]]))
        self.assertFalse(self.close(LISTS, program, starts, [table[0], table[2]]))
        self.assertFalse(self.close(LISTS, program, starts, table[:3]))

    def test_an_entry_more(self):
        _, table = found_table(LISTS, LET_GO, webs("x=1 1:list()"))
        for row, text, told in (
            (5, "x=1 y=* 1:list()", False),    # What comes of it is not there.
            (2, "x=- y=-", False),             # A fault.
            (3, "x=* y=*", False),
            (2, "x=1 y=- 1:list()", False),    # Its second opening loses a list.
            (6, "x=* y=*", True),
            (6, "x=1 y=1 1:list()", True),
            (5, "x=- y=-", True),
            (1, "x=1 y=- 1:cell(-,-)", True),
            (0, "x=1 y=- 1:cell(-,2) 2:list()", True),
            (0, "x=1 y=- 1:part(-)", False),
        ):
            more = table + rows((row, text))
            self.assertEqual(self.close(LISTS, LET_GO, ["x=1 1:list()"], more), told, text)
            self.assertEqual(self.close(LISTS, LET_GO, ["x=1 1:list()"], more[::-1]), told, text)
            wished = told and (row < 6)
            self.assertEqual(self.close(LISTS, LET_GO, ["x=1 1:list()"], more, ["x=-"]), wished, text)

    def test_an_entry_changed(self):
        _, table = found_table(LISTS, LET_GO, webs("x=1 1:list()"))
        for at, (row, web) in enumerate(table):
            for other in ((row, read_web("x=* y=*")), ((row + 1) % 7, web)):
                self.assertFalse(self.close(LISTS, LET_GO, ["x=1 1:list()"], table[:at] + [other] + table[at + 1:]))

    def test_the_empty_table(self):
        for program in (WALK, LET_GO, Program([("go", 0)])):
            self.assertFalse(self.close(LISTS, program, ["x=-"], []))
            self.assertFalse(self.close(LISTS, program, ["x=1 1:list()"], [], ["x=-"]))

    def test_a_smaller_table_than_the_found_one(self):
        # What a name leads to may be folded here, too.
        table = rows(
            (0, "x=1 y=- 1:list()"),
            (1, "x=1 y=1 1:list()"), (1, "x=1 y=2 1:part(2) 2:list()"), (1, "x=1 y=- 1:list()"),
            (2, "x=1 y=1 1:list()"), (2, "x=1 y=2 1:part(2) 2:list()"), (3, "x=1 y=2 1:part(2) 2:list()"),
            (3, "x=1 y=- 1:list()"), (4, "x=1 y=- 1:list()"),
        )
        self.assertTrue(self.close(LISTS, WALK, ["x=1 1:list()"], table, ["x=1 1:list()"]))
        self.assertTrue(self.close(LISTS, WALK, ["x=1 1:cell(-,-)", "x=1 1:part(2) 2:list()"], table, ["x=1 1:list()"]))
        self.assertFalse(self.close(LISTS, WALK, ["x=1 1:list()", "x=1 1:part(-)"], table))
        self.assertFalse(self.close(LISTS, WALK, ["x=1 1:list()"], table, ["x=1 1:cell(-,-)"]))
        for at in range(len(table)):
            self.assertFalse(self.close(LISTS, WALK, ["x=1 1:list()"], table[:at] + table[at + 1:]), table[at])

    def test_each_beginning_stands_at_row_nought(self):
        program = Program([("go", 0)])
        table = rows((0, "x=-"), (0, "x=1 1:list()"))
        self.assertTrue(self.close(LISTS, program, ["x=-", "x=1 1:cell(-,-)", "x=-", "x=1 1:list()"], table))
        self.assertFalse(self.close(LISTS, program, ["x=-", "x=*"], table))
        self.assertFalse(self.close(LISTS, program, ["x=-", "x=1 1:part(*)"], table))
        self.assertFalse(self.close(LISTS, program, ["x=-"], rows((1, "x=-"))))
        self.assertFalse(self.close(LISTS, program, ["x=- y=-"], table))

    def test_each_opening_and_each_outcome(self):
        program = Program([("read", "y", "x", "r")])
        one, two = "x=1 y=- 1:cell(-,-)", "x=1 y=2 1:cell(-,2) 2:list()"
        begin = (0, "x=1 y=- 1:list()")
        for told, there in (([(1, one), (1, two)], True), ([(1, one)], False), ([(1, two)], False)):
            self.assertEqual(self.close(LISTS, program, ["x=1 1:list()"], rows(begin, *told)), there)
        either = Program([("maybe", 2), ("go", 2)])
        for told, there in (((0, 1, 2), True), ((0, 1), False), ((0, 2), False), ((0,), False)):
            self.assertEqual(self.close(LISTS, either, ["x=-"], rows(*[(row, "x=-") for row in told])), there)

    def test_faults(self):
        for row, text in (
            (("nil", "x"), "x=1 1:list()"), (("free", "x"), "x=1 1:list()"), (("free", "x"), "x=*"),
            (("free", "x"), "x=-"), (("none", "x", 1), "x=*"),
        ):
            for lossy in (False, True):
                program = Program([row], lossy=lossy)
                table = rows((0, text), (1, "x=-"), (1, "x=*"))
                kept = lossy and text == "x=1 1:list()"
                self.assertEqual(self.close(LISTS, program, [text], table), kept, (row, text, lossy))

    def test_wishes(self):
        program = Program([("nil", "y")])
        ends = ("x=1 y=- 1:list()", "x=1 y=- 1:part(*)", "x=1 y=- 1:cell(-,*)")
        table = rows((0, "x=1 y=- 1:list()"), *[(1, text) for text in ends])
        for wishes, told in (
            (None, True), (["x=1 1:list()", "x=1 1:part(*)"], True), (["x=1 1:list()"], False),
            (["x=1 1:part(*)"], False),
            (["x=-"] * 4 + ["x=1 1:part(*)", "x=1 1:list()"], True), (["x=1 y=- 1:list()", "x=1 y=- 1:part(*)"], True),
            (["x=1 y=1 1:list()", "x=1 1:part(*)"], False), (["x=1 z=- 1:list()", "x=1 1:part(*)"], False),
            (["x=1 1:list()", "x=1 1:cell(-,*)"], False),
        ):
            self.assertEqual(self.close(LISTS, program, ["x=1 1:list()"], table, wishes), told, wishes)
        # Wishes are asked at the end alone.
        self.assertTrue(self.close(LISTS, Program([("go", 0)]), ["x=-"], rows((0, "x=-")), ["x=*"]))

    def test_ten_points(self):
        program = Program([("read", "y", "x", "r")])
        table = [(0, read_web(f"x=1 y=- {repr(chain(10))[4:]}")), (1, read_web("x=1 y=2 1:part(2) 2:list()"))]
        self.assertTrue(self.close(LISTS, program, [repr(chain(10))], table))
        self.assertFalse(self.close(NONE, program, [repr(chain(10))], table[:1]))
        self.assertFalse(self.close(TREES, program, [repr(chain(10))], table[:1]))

    def test_long_beginnings(self):
        program = Program([("go", 0)])
        self.assertTrue(closed(BOOK, program, [chain(200)], rows((0, "x=1 1:list()"))))
        self.assertTrue(closed(Book([PART]), program, [chain(200, -1)], rows((0, "x=1 1:part(2) 2:part(*)"))))
        self.assertFalse(closed(BOOK, program, [chain(200, -1)], rows((0, "x=1 1:list()"), (0, "x=1 1:tree()"))))


if __name__ == "__main__":
    unittest.main()
