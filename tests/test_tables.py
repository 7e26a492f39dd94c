"""Points 9, 16, 19, 20 and 21: tables found, or why there is none."""

import random
import unittest

from osier.books import Book
from osier.errors import BadItem, Full
from osier.folding import comes_to, folded
from osier.growing import heaps_of, holds, openings
from osier.programs import Program, done, ready, touched
from osier.tables import closed, found_table
from osier.webs import Web, read_web
from samples import (
    BOOK, LET_GO, LIST, LISTS, NONE, PART, TREE, TREES, WALK, chain, some_book, some_row, some_web, webs,
)

PUSH = Program([("new", "y"), ("write", "y", "r", "x"), ("copy", "x", "y"), ("nil", "y")])
TURN = Program([
    ("none", "x", 7), ("read", "z", "x", "r"), ("write", "x", "r", "y"), ("copy", "y", "x"), ("copy", "x", "z"),
    ("nil", "z"), ("go", 0),
])
# Down a tree by either field: what is passed is left out.
DOWN = Program([
    ("none", "x", 5), ("maybe", 4), ("read", "x", "x", "l"), ("go", 0), ("read", "x", "x", "r"),
], lossy=True)


def told_rows(told):
    """A found table's rows and texts."""
    word, table = told
    assert word == "kept"
    return [(row, repr(web)) for row, web in table]


def table_plainly(book, program, starts, wishes):
    """What point 21 tells."""
    def comes(row, web):
        if len(web) > 8:
            return "wide"
        if (row, repr(web)) not in [(number, repr(other)) for number, other in table]:
            if len(table) > 59:
                return "many"
            table.append((row, web))

    table = []
    for start in starts:
        word = comes(0, folded(book, ready(program, start)))
        if word:
            return ("failed", 0, word)
    for row, web in table:
        if row == len(program):
            if wishes is not None and not any(comes_to(book, web, [ready(program, wish)]) for wish in wishes):
                return ("failed", row, "unlike")
            continue
        point = touched(program, row, web)
        for opening in openings(book, web, point) if point else [web]:
            told = done(program, row, opening)
            words = [told] if isinstance(told, str) else [comes(k, folded(book, made)) for k, made in told]
            for word in words:
                if word:
                    return ("failed", row, word)
    return ("kept", table)


class Kept(unittest.TestCase):
    def keeps(self, book, program, starts, table, wishes=None):
        starts = webs(*starts)
        wishes = None if wishes is None else webs(*wishes)
        before = (list(starts), None if wishes is None else list(wishes), book.shape_rows(), program.row_rows())
        told = found_table(book, program, starts, wishes=wishes)
        self.assertEqual(told_rows(told), table)
        self.assertEqual((starts, wishes, book.shape_rows(), program.row_rows()), before)
        self.assertIs(closed(book, program, starts, told[1], wishes=wishes), True)
        self.assertIs(closed(book, program, starts, told[1]), True)

    def test_a_walk_over_a_list(self):
        self.keeps(LISTS, WALK, ["x=1 1:list()", "x=-"], [
            (0, "x=1 y=- 1:list()"),
            (0, "x=- y=-"),
            (1, "x=1 y=1 1:list()"),
            (1, "x=- y=-"),
            (2, "x=1 y=1 1:list()"),
            (4, "x=- y=-"),
            (3, "x=1 y=- 1:cell(-,-)"),
            (3, "x=1 y=2 1:cell(-,2) 2:list()"),
            (1, "x=1 y=- 1:cell(-,-)"),
            (1, "x=1 y=2 1:cell(-,2) 2:list()"),
            (4, "x=1 y=- 1:cell(-,-)"),
            (2, "x=1 y=2 1:cell(-,2) 2:list()"),
            (3, "x=1 y=- 1:cell(-,2) 2:list()"),
            (3, "x=1 y=2 1:cell(-,3) 2:list() 3:part(2)"),
            (1, "x=1 y=- 1:cell(-,2) 2:list()"),
            (1, "x=1 y=2 1:cell(-,3) 2:list() 3:part(2)"),
            (4, "x=1 y=- 1:cell(-,2) 2:list()"),
            (2, "x=1 y=2 1:cell(-,3) 2:list() 3:part(2)"),
        ], ["x=1 1:list()", "x=-"])

    def test_letting_all_go(self):
        self.keeps(LISTS, LET_GO, ["x=1 1:list()"], [
            (0, "x=1 y=- 1:list()"),
            (1, "x=1 y=- 1:list()"),
            (2, "x=1 y=- 1:cell(-,-)"),
            (2, "x=1 y=2 1:cell(-,2) 2:list()"),
            (3, "x=* y=-"),
            (3, "x=* y=1 1:list()"),
            (4, "x=- y=-"),
            (4, "x=1 y=1 1:list()"),
            (5, "x=- y=-"),
            (5, "x=1 y=- 1:list()"),
            (0, "x=- y=-"),
            (6, "x=- y=-"),
        ], ["x=-"])

    def test_taking_one_out(self):
        # The second cell is taken out of a list, where there is one.
        program = Program([
            ("read", "y", "x", "r"), ("none", "y", 6), ("read", "z", "y", "r"), ("write", "x", "r", "z"), ("free", "y"),
            ("nil", "y"),
        ])
        self.keeps(LISTS, program, ["x=1 1:list()"], [
            (0, "x=1 y=- z=- 1:list()"),
            (1, "x=1 y=- z=- 1:cell(-,-)"),
            (1, "x=1 y=2 z=- 1:cell(-,2) 2:list()"),
            (6, "x=1 y=- z=- 1:cell(-,-)"),
            (2, "x=1 y=2 z=- 1:cell(-,2) 2:list()"),
            (3, "x=1 y=2 z=- 1:cell(-,2) 2:cell(-,-)"),
            (3, "x=1 y=2 z=3 1:cell(-,2) 2:cell(-,3) 3:list()"),
            (4, "x=1 y=2 z=- 1:cell(-,-) 2:cell(-,-)"),
            (4, "x=1 y=2 z=3 1:cell(-,3) 2:cell(-,3) 3:list()"),
            (5, "x=1 y=* z=- 1:cell(-,-)"),
            (5, "x=1 y=* z=2 1:cell(-,2) 2:list()"),
            (6, "x=1 y=- z=2 1:cell(-,2) 2:list()"),
        ], ["x=1 z=- 1:list()", "x=1 z=2 1:part(2) 2:list()"])

    def test_down_a_tree(self):
        self.keeps(TREES, DOWN, ["x=1 1:tree()"], [
            (0, "x=1 1:tree()"),
            (1, "x=1 1:tree()"),
            (2, "x=1 1:tree()"),
            (4, "x=1 1:tree()"),
            (3, "x=-"),
            (3, "x=1 1:tree()"),
            (5, "x=-"),
            (5, "x=1 1:tree()"),
            (0, "x=-"),
        ], ["x=1 1:tree()", "x=-"])

    def test_turning_a_list_round(self):
        told = found_table(LISTS, TURN, webs("x=1 1:list()"), wishes=webs("x=- y=1 1:list()"))
        self.assertEqual(told[0], "kept")
        ends = [repr(web) for row, web in told[1] if row == 7]
        self.assertEqual(ends, ["x=- y=1 z=- 1:cell(-,-)", "x=- y=1 z=- 1:cell(-,2) 2:list()"])

    def test_the_entries_of_an_end(self):
        self.keeps(LISTS, Program([("go", 1)]), ["x=1 1:list()"], [(0, "x=1 1:list()"), (1, "x=1 1:list()")])
        self.keeps(LISTS, Program([("go", 0)]), ["x=1 1:list()"], [(0, "x=1 1:list()")], ["x=*"])
        self.keeps(LISTS, Program([("maybe", 0)]), ["x=-"], [(0, "x=-"), (1, "x=-")], ["x=-"])

    def test_beginnings_are_folded_and_come_once(self):
        program = Program([("nil", "y")])
        self.keeps(
            LISTS, program,
            ["x=1 1:cell(-,2) 2:cell(-,-)", "x=-", "x=1 1:cell(-,2) 2:list()", "x=- y=-", "x=-"],
            [(0, "x=1 y=- 1:cell(-,2) 2:list()"), (0, "x=- y=-"), (1, "x=1 y=- 1:cell(-,2) 2:list()"), (1, "x=- y=-")],
        )

    def test_names_of_beginnings_that_the_program_lacks(self):
        self.keeps(LISTS, Program([("nil", "y")]), ["a=* x=1 1:list()"], [
            (0, "a=* x=1 y=- 1:list()"), (1, "a=* x=1 y=- 1:list()"),
        ], ["a=* x=1 1:list()"])

    def test_six_wishes(self):
        starts = ["x=-", "x=1 1:list()", "x=*"]
        wishes = ["x=1 1:tree()", "x=1 1:ring()", "x=1 1:part(*)", "x=*", "x=1 1:cell(-,-)", "x=1 1:list()"]
        told = found_table(BOOK, Program([("go", 1)]), webs(*starts), wishes=webs(*wishes))
        self.assertEqual(told, ("failed", 1, "unlike"))
        wishes[0] = "x=-"
        self.keeps(BOOK, Program([("go", 1)]), starts, [(row, text) for row in (0, 1) for text in starts], wishes)

    def test_a_wide_beginning_that_folds(self):
        told = found_table(LISTS, Program([("go", 1)]), [chain(200)])
        self.assertEqual(told_rows(told), [(row, "x=1 1:cell(-,2) 2:list()") for row in (0, 1)])

    def test_eight_points_are_not_wide(self):
        told = found_table(NONE, Program([("go", 1)]), [chain(8)])
        self.assertEqual(told, ("kept", [(0, chain(8)), (1, chain(8))]))

    def test_sixty_entries_are_not_many(self):
        starts = [chain(cells) for cells in range(6)]
        told = found_table(NONE, Program([("nil", "y")] * 9), starts)
        self.assertEqual(told[0], "kept")
        self.assertEqual([row for row, _ in told[1]], [row for row in range(10) for _ in range(6)])
        self.assertEqual(told[1][-1], (9, ready(Program([("nil", "y")]), chain(5))))
        self.assertIs(closed(NONE, Program([("nil", "y")] * 9), starts, told[1]), True)

    def test_a_told_table_is_the_askers_own(self):
        starts = webs("x=1 1:list()")
        first = found_table(LISTS, LET_GO, starts)
        self.assertIs(type(first), tuple)
        self.assertIs(type(first[1]), list)
        self.assertTrue(all(type(entry) is tuple for entry in first[1]))
        rows = told_rows(first)
        first[1].clear()
        self.assertEqual(told_rows(found_table(LISTS, LET_GO, starts)), rows)
        starts.append(read_web("x=*"))
        self.assertEqual(told_rows(found_table(LISTS, LET_GO, starts[:1])), rows)


class Failed(unittest.TestCase):
    def fails(self, book, rows, starts, row, word, wishes=None, lossy=False):
        program = Program(rows, lossy=lossy)
        starts = [read_web(start) if isinstance(start, str) else start for start in starts]
        wishes = None if wishes is None else webs(*wishes)
        self.assertEqual(found_table(book, program, starts, wishes=wishes), ("failed", row, word))

    def test_nothing(self):
        walk = [("copy", "y", "x"), ("read", "y", "y", "r"), ("none", "y", 4), ("read", "y", "y", "r")]
        self.fails(LISTS, walk, ["x=1 1:list()", "x=-"], 1, "nothing")
        self.fails(LISTS, [("read", "y", "x", "r"), ("read", "y", "y", "r")], ["x=1 1:list()"], 1, "nothing")
        self.fails(LISTS, [("free", "x")], ["x=-"], 0, "nothing")

    def test_gone(self):
        rows = [("copy", "y", "x"), ("free", "y"), ("nil", "z"), ("clear", "x", "l")]
        self.fails(LISTS, rows, ["x=1 1:cell(-,-)"], 3, "gone")
        self.fails(LISTS, [("none", "x", 1)], ["x=*"], 0, "gone")
        self.fails(LISTS, [("maybe", 0), ("same", "x", "y", 0)], ["x=*"], 1, "gone")

    def test_lost(self):
        self.fails(LISTS, [("go", 2), ("go", 0), ("nil", "x")], ["x=1 1:list()"], 2, "lost")
        # The first opening has no fault, the second one has.
        self.fails(LISTS, [("free", "x")], ["x=1 1:list()"], 0, "lost")
        told = found_table(LISTS, Program([("free", "x")], lossy=True), webs("x=1 1:list()"))
        self.assertEqual(told_rows(told), [(0, "x=1 1:list()"), (1, "x=*")])

    def test_unlike(self):
        self.fails(LISTS, [("go", 1)], ["x=1 1:list()"], 1, "unlike", ["x=-"])
        self.fails(LISTS, [("go", 1)], ["x=1 1:list()"], 1, "unlike", ["x=1 1:cell(-,-)", "x=1 y=- 1:list()"])
        self.fails(LISTS, [("nil", "y"), ("go", 2)], ["x=1 1:cell(-,*)"], 2, "unlike", ["x=1 1:list()"])
        self.fails(LISTS, [("nil", "x")], ["x=-", "x=* y=-"], 1, "unlike", ["x=-"])
        self.fails(LISTS, [("nil", "x")], ["x=-"], 1, "unlike", [])

    def test_wide(self):
        push = [("new", "y"), ("write", "y", "r", "x"), ("copy", "x", "y"), ("go", 0)]
        self.fails(NONE, push, ["x=-"], 0, "wide")
        turned = [("go", 1)] + [("new", "y"), ("write", "y", "r", "x"), ("copy", "x", "y"), ("go", 1)]
        self.fails(NONE, turned, ["x=-"], 1, "wide")
        self.assertEqual(found_table(LISTS, Program(PUSH.row_rows() + [("maybe", 0)]), webs("x=-"))[0], "kept")
        # Of all names only the rule of two inner points makes the web wider.
        trees = [("read", "y", "x", "l"), ("read", "z", "x", "r"), ("go", 2)]
        self.assertEqual(found_table(TREES, Program(trees), webs("x=1 1:tree()"))[0], "kept")

    def test_wide_beginnings(self):
        self.fails(NONE, [("go", 1)], [chain(9)], 0, "wide")
        self.fails(NONE, [("read", "y", "x", "l")], [chain(0), chain(9)], 0, "wide")
        self.fails(NONE, [("go", 1)], [chain(1), chain(200)], 0, "wide")
        self.fails(TREES, [("go", 1)], [Web([("x", 1)], chain(9, -1).item_rows())], 0, "wide")
        loops = Web([("x", 1)], [("cell", (k, k + 1)) for k in range(1, 9)] + [("cell", (9, 9))])
        self.fails(LISTS, [("free", "x")], [loops], 0, "wide")

    def test_many(self):
        starts = [chain(cells) for cells in range(6)]
        self.fails(NONE, [("nil", "y")] * 10, starts, 9, "many")
        self.fails(NONE, [("nil", "y")] * 12, starts[:5], 11, "many")
        walk = [("copy", "y", "x"), ("none", "y", 7), ("maybe", 5), ("read", "y", "y", "l"), ("go", 1),
                ("read", "y", "y", "r"), ("go", 1)]
        self.fails(TREES, walk, ["x=1 1:tree()"], 4, "many")

    def test_wide_goes_ahead_of_many_at_one_outcome(self):
        # The loop has seven rows; at its ninth round the table has as many entries as it can have.
        loop = [("new", "y"), ("write", "y", "r", "x"), ("copy", "x", "y")] + [("nil", "z")] * 3
        for ahead, row, word in ((2, 2, "wide"), (3, 3, "wide"), (4, 10, "many")):
            self.fails(NONE, [("nil", "z")] * ahead + loop + [("go", ahead)], ["x=-"], row, word)

    def test_whichever_comes_first(self):
        # One opening has an outcome that is wide, another one a fault: the opening of the first rule tells.
        wide = ("-", "p", (("leaf", ("p",)),))
        lost = ("p", "-", (("leaf", ("p",)),))
        kept = ("-", "-", ())
        cells = [("cell", (point, point)) for point in range(3, 9)] + [("cell", (2, 2))]
        eight = Web([("x", 1), ("y", 2)], [("fan", ())] + cells)
        for rules, word in (
            ([wide, lost, kept], "wide"), ([lost, wide, kept], "lost"), ([kept, wide, lost], "wide"),
            ([kept, lost, wide], "lost"), ([wide], "wide"), ([lost], "lost"),
        ):
            book = Book([("fan", 1, rules), ("leaf", 1, [("a", "a", ())])])
            self.fails(book, [("clear", "x", "l")], [eight], 0, word)
        # An entry's failure goes ahead of all that comes behind it.
        self.fails(LISTS, [("maybe", 2), ("nil", "x"), ("free", "y")], ["x=1 1:list()"], 1, "lost")
        self.fails(LISTS, [("maybe", 2), ("nil", "y"), ("free", "y")], ["x=1 1:list()"], 2, "nothing")
        self.fails(LISTS, [("free", "x"), ("nil", "x")], ["x=1 1:cell(-,-)", "x=-"], 0, "nothing")

    def test_the_row_of_the_entry_is_told(self):
        self.fails(LISTS, [("go", 3), ("go", 0), ("go", 0), ("free", "y")], ["x=1 1:list()"], 3, "nothing")


class Refused(unittest.TestCase):
    six = read_web("a=- b=- c=- d=- e=- f=-")
    program = Program([("nil", "x"), ("nil", "y")])

    def asked(self, book, starts, wishes=None, table=None):
        if table is None:
            return found_table(book, self.program, starts, wishes=wishes)
        return closed(book, self.program, starts, table, wishes=wishes)

    def test_full(self):
        good = read_web("x=-")
        for starts, wishes in (
            ([self.six], None), ([good, self.six], [good]), ([good], [self.six]), ([good], [good, self.six]),
            ([chain(200), self.six], None), ([chain(200)], [self.six]),
        ):
            for table in (None, [], [(0, read_web("x=- y=-"))]):
                with self.assertRaises(Full):
                    self.asked(NONE, starts, wishes, table)
        five = read_web("a=- b=- c=- d=- x=-")
        self.assertEqual(self.asked(NONE, [five], [five])[0], "kept")

    def test_bad_item(self):
        tree = read_web("x=1 1:tree()")
        deep = read_web("x=1 1:cell(2,3) 2:list() 3:ring()")
        good = read_web("x=1 1:list()")
        for starts, wishes, place in (
            ([tree, deep], None, 0), ([deep, tree], None, 2), ([good, deep], [tree], 2), ([good], [deep, tree], 2),
            ([good, good], [good, tree, deep], 0), ([self.six, deep], [tree], 2), ([self.six], [deep], 2),
            ([tree], [self.six], 0),
        ):
            for table in (None, [(0, tree), (1, deep)], [(0, deep), (1, tree)]):
                with self.assertRaises(BadItem) as caught:
                    self.asked(LISTS, starts, wishes, table)
                self.assertEqual(caught.exception.place, place)
        for starts, wishes, table, place in (
            ([good], None, [(0, good), (1, deep), (0, tree)], 2), ([good], [good], [(2, tree), (1, deep)], 0),
            ([self.six], [self.six], [(0, good), (1, deep)], 2),
        ):
            with self.assertRaises(BadItem) as caught:
                self.asked(LISTS, starts, wishes, table)
            self.assertEqual(caught.exception.place, place)

    def test_bad_item_goes_ahead_of_any_answer(self):
        with self.assertRaises(BadItem):
            self.asked(LISTS, [chain(200, -1), read_web("x=1 1:tree()")])
        with self.assertRaises(BadItem):
            self.asked(NONE, [chain(200)], webs("x=1 1:tree()"))


class EveryRun(unittest.TestCase):
    """Point 20."""

    def runs(self, book, program, starts, wishes, table, cells):
        waiting = [(0, heap) for start in starts for heap in heaps_of(book, ready(program, start), cells=cells)]
        met = set()
        while waiting:
            row, heap = waiting.pop()
            if (row, repr(heap)) in met or len(heap) > 7 or len(met) > 300:
                continue
            met.add((row, repr(heap)))
            self.assertTrue(any(holds(book, web, heap) for number, web in table if number == row), (row, heap))
            if row < len(program):
                told = done(program, row, heap)
                self.assertNotIsInstance(told, str)
                waiting.extend(told)
            elif wishes is not None:
                self.assertTrue(any(holds(book, ready(program, wish), heap) for wish in wishes))
        return len(met)

    def test_on_lists(self):
        start = webs("x=1 1:list()", "x=-")
        for program, starts, wishes in (
            (WALK, start, start), (LET_GO, start, webs("x=-")), (PUSH, start, webs("x=1 1:list()")),
            (TURN, start, webs("x=- y=1 1:list()", "x=-")), (Program(PUSH.row_rows() + [("maybe", 0)]), start, None),
        ):
            word, table = found_table(LISTS, program, starts, wishes=wishes)
            self.assertEqual(word, "kept")
            self.assertIs(closed(LISTS, program, starts, table, wishes=wishes), True)
            self.assertGreater(self.runs(LISTS, program, starts, wishes, table, 4), 20)

    def test_by_chance(self):
        chance = random.Random(20)
        words = {}
        for turn in range(500):
            book = (LISTS, TREES, BOOK, Book([LIST, TREE, PART]))[turn % 4] if turn < 350 else some_book(chance)
            many = chance.randint(1, 8)
            rows = [some_row(chance, ["x", "y", "z"], many) for _ in range(many)]
            program = Program(rows, lossy=chance.random() < 0.5)
            starts = [some_web(chance, book, chance.randint(0, 2)) for _ in range(chance.randint(1, 6))]
            wishes = None
            if chance.random() < 0.3:
                others = [some_web(chance, book, chance.randint(0, 2)) for _ in range(chance.randint(0, 4))]
                wishes = starts[:2] + others
            told = found_table(book, program, starts, wishes=wishes)
            self.assertEqual(told, table_plainly(book, program, starts, wishes))
            word = "kept" if told[0] == "kept" else told[2]
            words[word] = words.get(word, 0) + 1
            if told[0] == "kept":
                self.assertIs(closed(book, program, starts, told[1], wishes=wishes), True)
                self.runs(book, program, starts, wishes, told[1], 2)
        self.assertGreaterEqual(set(words), {"kept", "nothing", "gone", "lost", "unlike"})
        self.assertGreater(words["kept"], 60)


if __name__ == "__main__":
    unittest.main()
