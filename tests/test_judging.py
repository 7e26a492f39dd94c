"""Point 24, and what points 18, 20 and 23 promise over the whole program."""

import random
import unittest

from osier.books import Book
from osier.breaks import breaks_by, found_break
from osier.errors import BadItem, Full
from osier.growing import heaps_of, holds
from osier.judging import CELLS, judge
from osier.lofts import Loft
from osier.programs import Program, done, ready
from osier.tables import closed, found_table
from osier.webs import Web, read_web
from samples import BOOK, LET_GO, LIST, LISTS, NONE, PART, TREE, TREES, WALK, chain, some_book, some_row, some_web, webs
from told_programs import BROKEN, KEPT, UNSURE

# Names and shapes by other ones; the names keep their order.
OTHER_NAMES = {"w": "b", "x": "bb", "y": "c", "z": "zzzzzz"}
OTHER_SHAPES = {
    "list": "zz", "tree": "list", "part": "tree", "back": "ha", "way": "part", "ring": "aa", "fore": "ring",
    "cell": "cell",
}
GROW = [("new", "y"), ("write", "y", "r", "x"), ("copy", "x", "y"), ("nil", "y"), ("maybe", 0)]


def renamed_book(book, shapes):
    rows = []
    for name, points, rules in book.shape_rows():
        told = [(left, right, tuple((shapes[inner], letters) for inner, letters in within))
                for left, right, within in rules]
        rows.append((shapes[name], points, told))
    return Book(rows)


def renamed_program(program, names):
    # Neither fields nor jumps are among these names.
    rows = [(word, *[names.get(place, place) for place in places]) for word, *places in program.row_rows()]
    return Program(rows, lossy=program.lossy)


def renamed_web(web, names, shapes):
    return Web([(names[name], target) for name, target in web.name_rows()],
               [(shapes[word], targets) for word, targets in web.item_rows()])


def renamed_webs(told, names, shapes):
    return None if told is None else [renamed_web(web, names, shapes) for web in told]


def renamed_answer(told, names, shapes):
    """A kept table or a broken run with other names; all else as it is."""
    return tuple([(row, renamed_web(web, names, shapes)) for row, web in part] if isinstance(part, list) else part
                 for part in told)


class Judge(unittest.TestCase):
    def test_three_cells(self):
        self.assertEqual(CELLS, 3)
        # Only a heap of four cells breaks; no table is found for lack of a shape for such a list.
        four = Web([("x", 1)], chain(3).item_rows()[:2] + [("cell", (0, 4)), ("part", (0,))])
        rows = WALK.row_rows() + [("nil", "y")]
        five = read_web("x=1 1:cell(-,2) 2:cell(-,3) 3:cell(-,4) 4:cell(-,5) 5:list()")
        wishes = [chain(cells) for cells in range(4)] + [five]
        starts = webs("x=1 1:list()", "x=-")
        told = judge(LISTS, Program(rows), starts, wishes=wishes)
        self.assertEqual(told, judge(LISTS, Program(rows), starts, wishes=wishes, cells=3))
        self.assertEqual((told[0], told[2:]), ("unsure", ("unlike", 3)))
        told = judge(LISTS, Program(rows), starts, cells=4, wishes=wishes)
        self.assertEqual((told[0], told[2], len(told[1][0][1])), ("broken", "unlike", 4))
        for cells in range(4):
            told = judge(LISTS, Program(rows), starts, cells=cells, wishes=wishes)
            self.assertEqual((told[0], told[2:]), ("unsure", ("unlike", cells)))
        self.assertIsNone(breaks_by(LISTS, Program(rows), starts, [(0, ready(Program(rows), four))], wishes=wishes))

    def test_kept(self):
        for name, (book, program, starts, wishes) in KEPT.items():
            table = found_table(book, program, starts, wishes=wishes)
            self.assertEqual(table[0], "kept", name)
            for cells in range(5):
                self.assertEqual(judge(book, program, starts, wishes=wishes, cells=cells), table, name)
                self.assertEqual(judge(cells=cells, wishes=wishes, starts=starts, program=program, book=book), table)
            self.assertEqual(judge(book, program, starts, wishes=wishes), table, name)
            self.assertIs(closed(book, program, starts, table[1], wishes=wishes), True, name)
            self.assertEqual(found_break(book, program, starts, wishes=wishes, cells=4)[0], "none", name)

    def test_broken(self):
        for name, (book, program, starts, wishes, word, least) in BROKEN.items():
            self.assertEqual(found_table(book, program, starts, wishes=wishes)[0], "failed", name)
            told = judge(book, program, starts, wishes=wishes)
            self.assertEqual((told[0], told[2], len(told[1][0][1])), ("broken", word, least), name)
            self.assertEqual(told, found_break(book, program, starts, wishes=wishes), name)
            for cells in range(5):
                again = judge(book, program, starts, cells=cells, wishes=wishes)
                if cells >= least:
                    self.assertEqual(again, told, name)
                else:
                    row, why = found_table(book, program, starts, wishes=wishes)[1:]
                    self.assertEqual(again, ("unsure", row, why, cells), name)

    def test_unsure(self):
        for name, (book, program, starts, wishes, row, word) in UNSURE.items():
            self.assertEqual(judge(book, program, starts, wishes=wishes), ("unsure", row, word, 3), name)
            for cells in range(5):
                told = judge(book, program, starts, wishes=wishes, cells=cells)
                self.assertEqual(told, ("unsure", row, word, cells), name)
        grow = Program(GROW)
        self.assertEqual(judge(NONE, grow, webs("x=-")), ("unsure", 0, "wide", -1))
        self.assertEqual(judge(NONE, grow, [chain(2)], cells=4), ("unsure", 0, "wide", 1))
        self.assertEqual(judge(NONE, grow, [chain(2)], cells=1), ("unsure", 0, "wide", 1))
        self.assertEqual(judge(NONE, Program([("go", 1)]), [chain(9)]), ("unsure", 0, "wide", 3))

    def test_a_told_answer_is_the_askers_own(self):
        for book, program, starts, wishes in list(KEPT.values()) + [told[:4] for told in BROKEN.values()]:
            first = judge(book, program, starts, wishes=wishes)
            before = list(first[1])
            self.assertIs(type(first), tuple)
            self.assertIs(type(first[1]), list)
            first[1].clear()
            self.assertEqual(judge(book, program, starts, wishes=wishes)[1], before)

    def test_refused(self):
        six = read_web("a=- b=- c=- d=- e=- f=-")
        good = read_web("x=1 1:list()")
        tree = read_web("x=1 1:tree()")
        deep = read_web("x=1 1:cell(2,3) 2:list() 3:ring()")
        for starts, wishes, place in (
            ([tree, deep], None, 0), ([deep, tree], None, 2), ([good, deep], [tree], 2), ([good], [deep, tree], 2),
            ([six, deep], [tree], 2), ([six], [deep], 2), ([chain(200), tree], None, 0),
        ):
            with self.assertRaises(BadItem) as caught:
                judge(LISTS, WALK, starts, wishes=wishes)
            self.assertEqual(caught.exception.place, place)
        for starts, wishes in (([six], None), ([good, six], None), ([good], [six]), ([chain(200)], [good, six])):
            with self.assertRaises(Full):
                judge(LISTS, WALK, starts, wishes=wishes)


class WholeProgram(unittest.TestCase):
    def some_cases(self, chance, turns):
        for turn in range(turns):
            book = (LISTS, TREES, BOOK, Book([LIST, TREE, PART]))[turn % 4] if turn % 5 else some_book(chance)
            many = chance.randint(1, 8)
            rows = [some_row(chance, ["x", "y", "z"], many) for _ in range(many)]
            program = Program(rows, lossy=chance.random() < 0.5)
            starts = [some_web(chance, book, chance.randint(0, 2)) for _ in range(chance.randint(1, 4))]
            wishes = None
            if chance.random() < 0.3:
                others = [some_web(chance, book, chance.randint(0, 2)) for _ in range(chance.randint(0, 3))]
                wishes = starts[:2] + others
            yield book, program, starts, wishes

    def kept_cases(self, chance, turns):
        for book, program, starts, wishes in self.some_cases(chance, turns):
            told = found_table(book, program, starts, wishes=wishes)
            if told[0] == "kept":
                yield book, program, starts, wishes, told[1]
        for book, program, starts, wishes in KEPT.values():
            yield book, program, starts, wishes, found_table(book, program, starts, wishes=wishes)[1]

    def test_one_of_three_answers(self):
        words = {}
        for book, program, starts, wishes in self.some_cases(random.Random(24), 300):
            told = judge(book, program, starts, wishes=wishes)
            table = found_table(book, program, starts, wishes=wishes)
            looked = found_break(book, program, starts, wishes=wishes)
            words[told[0]] = words.get(told[0], 0) + 1
            if table[0] == "kept":
                self.assertEqual((told, looked[0]), (table, "none"))
            elif looked[0] == "broken":
                self.assertEqual(told, looked)
            else:
                self.assertEqual(told, ("unsure", *table[1:], looked[1]))
        self.assertEqual(set(words), {"kept", "broken", "unsure"})

    def test_what_is_kept_has_no_break(self):
        many = 0
        for book, program, starts, wishes, table in self.kept_cases(random.Random(20), 400):
            many += 1
            self.assertEqual(found_break(book, program, starts, wishes=wishes, cells=4)[0], "none")
            self.every_run(book, program, starts, wishes, table)
        self.assertGreater(many, 80)

    def every_run(self, book, program, starts, wishes, table):
        """Point 20 on heaps of few cells: each row finds a heap of a web that stands there."""
        waiting = [(0, heap) for start in starts for heap in heaps_of(book, ready(program, start), cells=3)]
        met = set()
        while waiting:
            row, heap = waiting.pop()
            if (row, repr(heap)) in met or len(heap) > 6 or len(met) > 60:
                continue
            met.add((row, repr(heap)))
            self.assertTrue(any(holds(book, web, heap) for number, web in table if number == row), (row, heap))
            if row < len(program):
                waiting.extend(done(program, row, heap))
            elif wishes is not None:
                self.assertTrue(any(holds(book, ready(program, wish), heap) for wish in wishes))

    def test_other_names(self):
        cases = list(self.some_cases(random.Random(4), 250)) + list(KEPT.values())
        cases += [told[:4] for told in list(BROKEN.values()) + list(UNSURE.values())]
        words = {}
        for book, program, starts, wishes in cases:
            known = [name for name, _, _ in book.shape_rows()]
            # Of books by chance the shapes take each other's names.
            shapes = dict(zip(known, known[1:] + known[:1])) if set(known) - set(OTHER_SHAPES) else OTHER_SHAPES
            shapes = {**shapes, "cell": "cell"}
            names = {**{name: name for name in "abcdefghijklmnopqrstuv"}, **OTHER_NAMES}
            names.update({"u": "aa", "v": "ab"})
            told = judge(book, program, starts, wishes=wishes)
            again = judge(
                renamed_book(book, shapes), renamed_program(program, OTHER_NAMES), renamed_webs(starts, names, shapes),
                wishes=renamed_webs(wishes, names, shapes),
            )
            self.assertEqual(again, renamed_answer(told, names, shapes))
            words[told[0]] = True
        self.assertEqual(len(words), 3)

    def test_a_row_that_changes_nothing(self):
        chance = random.Random(17)
        many = 0
        for book, program, starts, wishes, table in self.kept_cases(chance, 200):
            if len(program) > 23:
                continue
            loft = Loft(book)
            loft.begin("one", program.row_rows(), starts, lossy=program.lossy)
            loft.wish("one", wishes)
            at = chance.randint(0, len(program))
            name = chance.choice(program.names() or ["x"])
            rows = [("go", at + 1), ("maybe", at + 1)] + ([("copy", name, name)] if program.names() else [])
            loft.put("one", at, chance.choice(rows))
            told = loft.judged("one")
            if told[0] != "kept":
                self.assertIn(told[2:], [("many", cells) for cells in range(-1, 4)])
                continue
            many += 1
            before = sorted((row + (row >= at), repr(web)) for row, web in table)
            after = sorted((row, repr(web)) for row, web in told[1] if row != at)
            self.assertEqual(after, before)
            loft.take("one", at)
            self.assertEqual(loft.judged("one"), ("kept", table))
        self.assertGreater(many, 60)

    def test_fewer_beginnings(self):
        chance = random.Random(5)
        for book, program, starts, wishes, table in self.kept_cases(chance, 200):
            fewer = chance.sample(starts, chance.randint(1, len(starts)))
            told = judge(book, program, fewer, wishes=wishes)
            self.assertEqual(told[0], "kept")
            self.assertLessEqual({(row, repr(web)) for row, web in told[1]}, {(row, repr(web)) for row, web in table})

    def test_fewer_wishes_break_and_none_keep(self):
        for name, (book, program, starts, wishes) in KEPT.items():
            self.assertEqual(judge(book, program, starts)[0], "kept", name)
            self.assertEqual(judge(book, program, starts, wishes=webs("x=*"))[0], "broken", name)
        told = judge(LISTS, LET_GO, webs("x=1 1:list()"), wishes=webs("x=1 1:list()"))
        self.assertEqual((told[0], told[2], len(told[1])), ("broken", "unlike", 8))


if __name__ == "__main__":
    unittest.main()
