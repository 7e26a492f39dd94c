"""Points 12, 17, 22 and 23: breaks that are looked for, and runs that break."""

import random
import unittest

from osier.books import Book
from osier.breaks import breaks_by, found_break
from osier.errors import BadItem, Full
from osier.growing import heaps_of, holds
from osier.programs import Program, done, ready
from osier.webs import read_web
from samples import BOOK, LIST, LISTS, NONE, PART, TREE, TREES, chain, some_book, some_row, some_web, webs
from told_programs import BROKEN, KEPT, UNSURE

# One cell by nine ways: its fields lead to itself, to nothing or to gone.
ONES = Book([
    ("four", 1, [("-", "-", ()), ("a", "-", ()), ("-", "a", ()), ("a", "a", ())]),
    ("five", 2, [("b", "-", ()), ("b", "a", ()), ("-", "b", ()), ("a", "b", ()), ("b", "b", ())]),
])
# Where y leads to nothing there are two stands, else twenty-five.
LONG = Program([("none", "y", 24)] + [("go", row) for row in range(2, 25)])
WILD = Book([("wild", 1, [
    ("-", "-", ()), ("a", "-", ()), ("-", "p", (("wild", ("p",)),)), ("p", "a", (("wild", ("p",)),)),
    ("p", "-", (("wild", ("p",)),)), ("p", "q", (("wild", ("p",)), ("wild", ("q",)))),
])])
GROW = [("new", "y"), ("write", "y", "r", "x"), ("copy", "x", "y"), ("nil", "y"), ("maybe", 0)]


def shown_run(run):
    return [(row, repr(heap)) for row, heap in run]


def break_plainly(book, program, starts, wishes, cells):
    """What point 23 tells, from its words: each stand has the run that led to it with it."""
    for number in range(cells + 1):
        texts = {}
        for start in starts:
            for heap in heaps_of(book, start, cells=number):
                if len(heap) == number:
                    made = ready(program, heap)
                    texts[repr(made)] = made
        runs = [[(0, texts[text])] for text in sorted(texts)]
        over = len(runs) > 300
        del runs[300:]
        for run in runs:
            row, heap = run[-1]
            if row == len(program):
                if wishes is not None and not any(holds(book, ready(program, wish), heap) for wish in wishes):
                    return ("broken", run, "unlike")
                continue
            told = done(program, row, heap)
            if isinstance(told, str):
                return ("broken", run, told)
            for stand in told:
                if stand not in [other[-1] for other in runs]:
                    if len(runs) < 300:
                        runs.append(run + [stand])
                    else:
                        over = True
        if over:
            return ("none", number - 1)
    return ("none", cells)


class FoundBreak(unittest.TestCase):
    def breaks(self, book, rows, starts, run, word, wishes=None, cells=3, lossy=False):
        program = Program(rows, lossy=lossy)
        starts = webs(*starts)
        wishes = None if wishes is None else webs(*wishes)
        told = found_break(book, program, starts, wishes=wishes, cells=cells)
        self.assertEqual((told[0], shown_run(told[1]), told[2]), ("broken", run, word))
        self.assertEqual(breaks_by(book, program, starts, told[1], wishes=wishes), word)

    def test_nothing(self):
        rows = [("copy", "y", "x"), ("read", "y", "y", "r"), ("read", "y", "y", "r")]
        self.breaks(LISTS, rows, ["x=1 1:list()"], [
            (0, "x=1 y=- 1:cell(-,-)"), (1, "x=1 y=1 1:cell(-,-)"), (2, "x=1 y=- 1:cell(-,-)"),
        ], "nothing")
        self.breaks(LISTS, rows, ["x=1 1:list()", "x=-"], [(0, "x=- y=-"), (1, "x=- y=-")], "nothing")
        for row in (("read", "y", "x", "l"), ("free", "x"), ("write", "x", "l", "y"), ("clear", "x", "r")):
            self.breaks(NONE, [row], ["x=- y=-"], [(0, "x=- y=-")], "nothing")

    def test_gone(self):
        for row in (
            ("read", "y", "x", "l"), ("free", "x"), ("write", "x", "l", "y"), ("clear", "x", "r"),
            ("none", "x", 0), ("same", "x", "y", 0), ("same", "y", "x", 0), ("same", "x", "x", 0),
        ):
            self.breaks(NONE, [row], ["x=* y=-"], [(0, "x=* y=-")], "gone")
        rows = [("copy", "y", "x"), ("free", "y"), ("clear", "x", "l")]
        self.breaks(LISTS, rows, ["x=1 1:list()"], [
            (0, "x=1 y=- 1:cell(-,-)"), (1, "x=1 y=1 1:cell(-,-)"), (2, "x=* y=*"),
        ], "gone")

    def test_lost(self):
        rows = [("nil", "y"), ("free", "x")]
        self.breaks(LISTS, rows, ["x=1 1:list()"], [
            (0, "x=1 y=- 1:cell(-,2) 2:cell(-,-)"), (1, "x=1 y=- 1:cell(-,2) 2:cell(-,-)"),
        ], "lost")
        told = found_break(LISTS, Program(rows, lossy=True), webs("x=1 1:list()"))
        self.assertEqual(told, ("none", 3))

    def test_unlike(self):
        rows = [("maybe", 2), ("copy", "y", "x")]
        self.breaks(LISTS, rows, ["x=1 1:list()"], [(0, "x=1 y=- 1:cell(-,-)"), (2, "x=1 y=- 1:cell(-,-)")],
                    "unlike", ["x=1 y=1 1:list()"])
        self.breaks(LISTS, rows, ["x=1 1:list()"], [
            (0, "x=1 y=- 1:cell(-,-)"), (1, "x=1 y=- 1:cell(-,-)"), (2, "x=1 y=1 1:cell(-,-)"),
        ], "unlike", ["x=1 1:list()"])
        self.breaks(LISTS, rows, ["x=1 1:list()"], [
            (0, "x=1 y=- 1:cell(-,2) 2:cell(-,-)"), (2, "x=1 y=- 1:cell(-,2) 2:cell(-,-)"),
        ], "unlike", ["x=1 y=1 1:list()", "x=1 1:cell(-,-)"])
        told = found_break(LISTS, Program(rows), webs("x=1 1:list()"), wishes=webs("x=1 1:list()", "x=1 y=1 1:list()"))
        self.assertEqual(told, ("none", 3))

    def test_no_break(self):
        for cells in range(5):
            for name, (book, program, starts, wishes) in KEPT.items():
                told = found_break(book, program, starts, wishes=wishes, cells=cells)
                self.assertEqual(told, break_plainly(book, program, starts, wishes, cells), name)
                self.assertEqual(told[0], "none", name)
        for name, (book, program, starts, wishes, _, _) in UNSURE.items():
            self.assertEqual(found_break(book, program, starts, wishes=wishes, cells=4), ("none", 4), name)

    def test_told_programs_break(self):
        for name, (book, program, starts, wishes, word, least) in BROKEN.items():
            told = found_break(book, program, starts, wishes=wishes)
            self.assertEqual((told[0], told[2], len(told[1][0][1])), ("broken", word, least), name)
            self.assertEqual(told, break_plainly(book, program, starts, wishes, 3), name)
            self.assertEqual(breaks_by(book, program, starts, told[1], wishes=wishes), word, name)
            for cells in range(5):
                again = found_break(book, program, starts, wishes=wishes, cells=cells)
                self.assertEqual(again, told if cells >= least else ("none", cells), name)

    def test_three_cells_where_none_is_told(self):
        rows = [("read", "y", "x", "r")] + [("read", "y", "y", "r")] * 2
        three = chain(3)
        self.assertEqual(found_break(NONE, Program(rows + [("read", "y", "y", "r")]), [three])[0], "broken")
        self.assertEqual(found_break(NONE, Program(rows + [("read", "y", "y", "r")]), [chain(4)]), ("none", 3))
        self.assertEqual(found_break(NONE, Program([("free", "x")]), [chain(4)], cells=4)[0], "broken")

    def test_beginnings_without_the_programs_names(self):
        self.breaks(LISTS, [("nil", "a"), ("clear", "z", "l")], ["empty"], [(0, "a=- z=-"), (1, "a=- z=-")], "nothing")
        self.breaks(LISTS, [("clear", "m", "l")], ["x=1 1:list()", "a=1 1:list()"], [(0, "a=1 m=- 1:cell(-,-)")],
                    "nothing")

    def test_fewer_cells_go_ahead(self):
        self.breaks(LISTS, [("free", "y")], ["x=1 1:cell(-,2) 2:list()", "x=*", "x=1 1:list()"], [(0, "x=* y=-")],
                    "nothing")

    def test_heaps_of_one_number_by_their_texts(self):
        # Made ready, the texts have another order than those of the beginnings: "a=.." goes ahead of "x=..".
        self.breaks(LISTS, [("nil", "a"), ("clear", "b", "l")], ["x=1 1:list()", "a=- b=- x=* y=1 1:list()"], [
            (0, "a=- b=- x=* y=1 1:cell(-,-)"), (1, "a=- b=- x=* y=1 1:cell(-,-)"),
        ], "nothing")
        self.breaks(TREES, [("clear", "x", "l")], ["x=1 1:tree()"], [(0, "x=1 1:cell(2,-) 2:cell(-,-)")], "lost")
        self.breaks(TREES, [("read", "y", "x", "r"), ("nil", "x")], ["x=1 1:cell(2,3) 2:tree() 3:tree()"], [
            (0, "x=1 y=- 1:cell(2,3) 2:cell(-,-) 3:cell(-,-)"), (1, "x=1 y=2 1:cell(3,2) 2:cell(-,-) 3:cell(-,-)"),
        ], "lost")
        # Each breaks; the first one by its text is told.
        self.breaks(NONE, [("clear", "w", "l")], ["x=1 1:cell(1,1)", "x=1 1:cell(-,1)", "x=1 1:cell(*,-)"],
                    [(0, "w=- x=1 1:cell(*,-)")], "nothing")

    def test_first_come_first(self):
        # Both ways lead to the end with the same heap: the shorter one comes first.
        rows = [("maybe", 3), ("go", 2), ("go", 4), ("nil", "y")]
        self.breaks(NONE, rows, ["x=-"], [(0, "x=- y=-"), (3, "x=- y=-"), (4, "x=- y=-")], "unlike", ["x=*"])
        # At the same number of rows the next row goes ahead of the told one.
        rows = [("maybe", 3), ("nil", "y"), ("go", 5), ("nil", "y"), ("go", 5), ("clear", "x", "l")]
        self.breaks(NONE, rows, ["x=-"], [(0, "x=- y=-"), (1, "x=- y=-"), (2, "x=- y=-"), (5, "x=- y=-")], "nothing")
        # Of two beginnings with the same number of cells the one that comes first breaks later than the other one.
        rows = [("none", "y", 3), ("go", 2), ("nil", "y"), ("clear", "x", "l")]
        self.breaks(NONE, rows, ["x=- y=-"], [(0, "x=- y=-"), (3, "x=- y=-")], "nothing")
        rows = [("same", "x", "y", 3), ("go", 2), ("clear", "z", "l"), ("go", 4), ("go", 5), ("clear", "z", "l")]
        self.breaks(NONE, rows, ["x=1 y=1 1:cell(-,-)", "x=- y=1 1:cell(-,-)"], [
            (0, "x=- y=1 z=- 1:cell(-,-)"), (1, "x=- y=1 z=- 1:cell(-,-)"), (2, "x=- y=1 z=- 1:cell(-,-)"),
        ], "nothing")

    def test_a_way_round_comes_once(self):
        for rows in ([("go", 0)], [("maybe", 0)], [("nil", "y"), ("go", 0)], [("maybe", 1)]):
            self.assertEqual(found_break(LISTS, Program(rows), webs("x=1 1:list()"), cells=4), ("none", 4))

    def test_three_hundred_and_one_more(self):
        starts = webs(*[f"x=1 y=1 z={target} 1:four()" for target in "-*1"])
        self.assertEqual(found_break(ONES, LONG, starts, cells=2), ("none", 2))
        more = webs(
            "x=1 y=1 z=- 1:five(*)", "x=1 y=1 z=* 1:five(*)", "x=1 y=1 z=1 1:cell(-,-)",
            "x=1 y=- z=- 1:five(*)", "x=1 y=- z=- 1:four()", "x=1 y=- z=* 1:four()",
        )
        self.assertEqual(found_break(ONES, LONG, more, cells=2), ("none", 0))
        self.assertEqual(found_break(ONES, LONG, more, cells=0), ("none", 0))
        self.assertEqual(found_break(ONES, LONG, more[:2] + more[3:], cells=2), ("none", 2))

    def test_more_than_three_hundred_with_no_break(self):
        grow = Program(GROW)
        for starts in (["x=-"], ["x=- y=-", "x=1 1:list()"]):
            for cells in range(5):
                self.assertEqual(found_break(LISTS, grow, webs(*starts), cells=cells), ("none", -1))
                told = found_break(LISTS, grow, webs(*starts), wishes=webs("x=1 1:list()"), cells=cells)
                self.assertEqual(told, ("none", -1))
        self.assertEqual(found_break(LISTS, grow, webs("x=1 1:list()")), ("none", 0))
        self.assertEqual(found_break(LISTS, grow, webs("x=1 1:cell(-,2) 2:list()"), cells=4), ("none", 1))
        self.assertEqual(found_break(LISTS, grow, webs("x=1 1:cell(-,2) 2:list()"), cells=1), ("none", 1))

    def test_more_than_three_hundred_with_a_break_among_them(self):
        # The heap at the end with so many cells is none of the wishes.
        for many in range(1, 4):
            wishes = [chain(cells) for cells in range(1, many)] or webs("x=*")
            told = found_break(NONE, Program(GROW), webs("x=-"), wishes=wishes)
            last = (5, ready(Program(GROW), chain(many)))
            self.assertEqual((told[0], told[1][-1], told[2]), ("broken", last, "unlike"))
            self.assertEqual(len(told[1]), 5 * many + 1)

    def test_a_break_at_the_last_stand_and_behind_it(self):
        starts = webs(*[f"x=1 y=1 z={target} 1:four()" for target in "-*1"])
        wishes = starts[:2] + webs(*[f"x=1 y=1 z=1 1:cell({fields})" for fields in ("-,-", "-,1", "1,-")])
        told = found_break(ONES, LONG, starts, wishes=wishes, cells=1)
        last = read_web("x=1 y=1 z=1 1:cell(1,1)")
        self.assertEqual(told, ("broken", [(row, last) for row in range(25)], "unlike"))
        self.assertEqual(told, break_plainly(ONES, LONG, starts, wishes, 1))
        # The stand with the number 301 is the one that breaks.
        last = read_web("x=1 y=1 z=1 1:cell(-,-)")
        starts = webs(
            "x=1 y=1 z=- 1:five(*)", "x=1 y=1 z=* 1:five(*)", "x=1 y=- z=- 1:five(*)", "x=1 y=- z=- 1:four()",
            "x=1 y=- z=* 1:four()",
        )
        self.assertEqual(found_break(ONES, LONG, starts + [last], wishes=starts), ("none", 0))
        told = found_break(ONES, LONG, starts[:4] + [last], wishes=starts)
        self.assertEqual(told, ("broken", [(row, last) for row in range(25)], "unlike"))

    def test_more_than_three_hundred_beginnings(self):
        # Ninety heaps of four cells come of one such shape, 124 of two; the last one by its text breaks.
        starts = webs(*[f"a=- x=1 y={target} 1:wild()" for target in "-*1"])
        last = chain(4, name="a")
        more = starts + webs("a=- x=1 y=2 1:wild() 2:wild()")
        program = Program([("nil", "a")])
        ready_last = read_web(repr(last).replace("a=1", "a=1 x=- y=-"))
        told = found_break(WILD, program, starts + [ready_last], cells=4)
        self.assertEqual(told, ("broken", [(0, ready_last)], "lost"))
        for cells in (3, 4):
            self.assertEqual(found_break(WILD, program, more + [ready_last], cells=cells), ("none", 3))
            self.assertEqual(found_break(WILD, program, more, cells=cells), ("none", 3))
        first = read_web("a=* x=1 y=- 1:cell(-,2) 2:cell(-,3) 3:cell(-,4) 4:cell(-,-)")
        told = found_break(WILD, Program([("none", "a", 0)]), more + [first], cells=4)
        self.assertEqual(told, ("broken", [(0, first)], "gone"))

    def test_asked_again(self):
        for book, program, starts, wishes, _, _ in BROKEN.values():
            first = found_break(book, program, starts, wishes=wishes)
            rows = shown_run(first[1])
            self.assertIs(type(first), tuple)
            self.assertIs(type(first[1]), list)
            self.assertTrue(all(type(stand) is tuple for stand in first[1]))
            first[1].clear()
            again = found_break(book, program, starts, wishes=wishes)
            self.assertEqual(shown_run(again[1]), rows)

    def test_nothing_handed_in_is_changed(self):
        for book, program, starts, wishes, _, _ in BROKEN.values():
            before = (book.shape_rows(), program.row_rows(), list(starts), None if wishes is None else list(wishes))
            told = found_break(book, program, starts, wishes=wishes)
            run = list(told[1])
            breaks_by(book, program, starts, told[1], wishes=wishes)
            self.assertEqual((book.shape_rows(), program.row_rows(), starts, wishes), before)
            self.assertEqual(told[1], run)


class ByChance(unittest.TestCase):
    def some_program(self, chance):
        many = chance.randint(1, 9)
        rows = [some_row(chance, ["x", "y", "z"], many) for _ in range(many)]
        return Program(rows, lossy=chance.random() < 0.4)

    def test_found_as_point_23_tells(self):
        chance = random.Random(23)
        words = {}
        for turn in range(700):
            book = (LISTS, TREES, BOOK, Book([LIST, TREE, PART]))[turn % 4] if turn < 500 else some_book(chance)
            program = self.some_program(chance)
            starts = [some_web(chance, book, chance.randint(0, 2)) for _ in range(chance.randint(1, 4))]
            wishes = None
            if chance.random() < 0.4:
                others = [some_web(chance, book, chance.randint(0, 2)) for _ in range(chance.randint(0, 3))]
                wishes = starts[:2] + others
            cells = chance.randint(0, 3)
            told = found_break(book, program, starts, wishes=wishes, cells=cells)
            self.assertEqual(told, break_plainly(book, program, starts, wishes, cells))
            word = told[2] if told[0] == "broken" else "none"
            words[word] = words.get(word, 0) + 1
            if told[0] == "broken":
                self.wrong_runs(chance, book, program, starts, wishes, told)
        self.assertEqual(set(words), {"none", "nothing", "gone", "lost", "unlike"})
        self.assertGreater(min(words.values()), 15)

    def wrong_runs(self, chance, book, program, starts, wishes, told):
        """The run breaks by its word, a run that is otherwise by none."""
        _, run, word = told
        self.assertEqual(breaks_by(book, program, starts, run, wishes=wishes), word)
        at = chance.randrange(len(run))
        row, heap = run[at]
        others = [
            run[:at], run[at + 1:], run[:at] + run[at:at + 1] * 2 + run[at + 1:], run[::-1],
            run[:at] + [(chance.randint(0, len(program)), heap)] + run[at + 1:],
            run[:at] + [(row, ready(program, some_web(chance, book, 2)))] + run[at + 1:],
        ]
        for other in others:
            if other != run:
                told = breaks_by(book, program, starts, other, wishes=wishes)
                self.assertEqual(told, self.word_plainly(book, program, starts, wishes, other))

    def word_plainly(self, book, program, starts, wishes, run):
        """What point 22 tells."""
        if not run or run[0][0] != 0 or not all(heap.is_heap() for _, heap in run):
            return None
        if not any(holds(book, ready(program, start), run[0][1]) for start in starts):
            return None
        for (row, heap), following in zip(run, run[1:]):
            if row == len(program) or following not in list(done(program, row, heap)):
                return None
        row, heap = run[-1]
        if row == len(program):
            if wishes is None or any(holds(book, ready(program, wish), heap) for wish in wishes):
                return None
            return "unlike"
        told = done(program, row, heap)
        return told if isinstance(told, str) else None


class BreaksBy(unittest.TestCase):
    program = Program([("none", "x", 4), ("read", "y", "x", "r"), ("free", "x"), ("copy", "x", "y"), ("free", "x")])
    starts = webs("x=1 1:list()", "x=-")
    told_run = [
        (0, read_web("x=1 y=- 1:cell(-,-)")), (1, read_web("x=1 y=- 1:cell(-,-)")),
        (2, read_web("x=1 y=- 1:cell(-,-)")), (3, read_web("x=* y=-")), (4, read_web("x=- y=-")),
    ]

    def asked(self, run, wishes=None):
        return breaks_by(LISTS, self.program, self.starts, run, wishes=wishes)

    def with_stand(self, at, stand):
        return self.told_run[:at] + [stand] + self.told_run[at + 1:]

    def test_a_run(self):
        self.assertEqual(self.asked(self.told_run), "nothing")
        self.assertEqual(self.asked([(0, read_web("x=- y=-")), (4, read_web("x=- y=-"))]), "nothing")
        self.assertIsNone(self.asked([]))

    def test_a_stand_left_out_doubled_or_turned_about(self):
        for at in range(len(self.told_run)):
            self.assertIsNone(self.asked(self.told_run[:at] + self.told_run[at + 1:]), at)
            self.assertIsNone(self.asked(self.told_run[:at + 1] + self.told_run[at:]), at)
            self.assertIsNone(self.asked(self.told_run[:at]), at)
            self.assertIsNone(self.asked(self.told_run + [self.told_run[at]]), at)
        self.assertIsNone(self.asked(self.told_run[::-1]))

    def test_another_row_or_heap(self):
        heaps = webs("x=- y=-", "x=1 y=1 1:cell(-,-)", "x=* y=*", "x=1 y=2 1:cell(-,2) 2:cell(-,-)", "x=- y=- z=-")
        for at, (row, heap) in enumerate(self.told_run):
            for other in range(6):
                if other != row:
                    self.assertIsNone(self.asked(self.with_stand(at, (other, heap))), (at, other))
            for other in heaps:
                if other != heap:
                    self.assertIsNone(self.asked(self.with_stand(at, (row, other))), (at, other))

    def test_no_heap_of_a_beginning(self):
        for text in ("x=1 y=- 1:cell(-,*)", "x=1 y=- 1:cell(1,-)", "x=* y=-", "x=1 y=1 1:cell(-,-)", "x=- y=- z=-"):
            self.assertIsNone(self.asked([(0, read_web(text))]), text)
        self.assertIsNone(breaks_by(LISTS, Program([("free", "x")]), webs("x=1 1:list()"), [(0, read_web("x=-"))]))

    def test_a_web_with_a_shape(self):
        self.assertIsNone(self.asked([(0, read_web("x=1 y=- 1:list()"))]))
        self.assertIsNone(self.asked([(0, read_web("x=1 y=- 1:list()")), (1, read_web("x=1 y=- 1:list()"))]))
        for at, (row, _) in enumerate(self.told_run):
            self.assertIsNone(self.asked(self.with_stand(at, (row, read_web("x=1 y=- 1:list()")))), at)
        # A beginning with a shape, that would break by "lost", is no heap of itself.
        shape = webs("x=1 1:list()")
        self.assertIsNone(breaks_by(LISTS, Program([("nil", "x")]), shape, [(0, shape[0])]))
        self.assertIsNone(breaks_by(LISTS, Program([("free", "x")]), shape, [(0, shape[0])]))

    def test_the_end(self):
        program = Program([("nil", "y")])
        one = read_web("x=1 y=- 1:cell(-,-)")
        two = read_web("x=1 y=- 1:cell(-,2) 2:cell(-,-)")
        starts = webs("x=1 1:list()")
        for heap, wishes, word in (
            (one, None, None), (one, ["x=1 1:list()"], None), (one, ["x=-"], "unlike"),
            (two, ["x=1 1:cell(-,-)"], "unlike"), (two, ["x=*", "x=1 1:cell(-,2) 2:list()"], None),
            (two, ["x=1 1:part(*)", "x=1 y=1 1:list()"], "unlike"),
        ):
            wishes = None if wishes is None else webs(*wishes)
            self.assertEqual(breaks_by(LISTS, program, starts, [(0, heap), (1, heap)], wishes=wishes), word)
            self.assertIsNone(breaks_by(LISTS, program, starts, [(0, heap)], wishes=wishes))
            self.assertIsNone(breaks_by(LISTS, program, starts, [(1, heap)], wishes=wishes))
            self.assertIsNone(breaks_by(LISTS, program, starts, [(0, heap), (1, heap), (1, heap)], wishes=wishes))

    def test_a_doubled_stand_that_is_an_outcome(self):
        program = Program([("maybe", 0), ("clear", "x", "l")])
        stand = (0, read_web("x=-"))
        last = (1, read_web("x=-"))
        self.assertEqual(breaks_by(NONE, program, webs("x=-"), [stand] * 5 + [last]), "nothing")
        self.assertIsNone(breaks_by(NONE, program, webs("x=-"), [stand] * 5))

    def test_heaps_of_many_cells(self):
        starts = webs("x=1 1:list()")
        for cells in (41, 100, 199, 200):
            heap = ready(Program([("nil", "y")]), chain(cells))
            self.assertEqual(breaks_by(LISTS, Program([("nil", "x"), ("nil", "y")]), starts, [(0, heap)]), "lost")
            end = [(0, heap), (1, heap)]
            self.assertIsNone(breaks_by(LISTS, Program([("nil", "y")]), starts, end, wishes=webs("x=1 1:list()")))
            wishes = webs("x=1 1:tree()", "x=1 1:part(2) 2:cell(1,-)")
            self.assertEqual(breaks_by(BOOK, Program([("nil", "y")]), starts, end, wishes=wishes[1:]), "unlike")
            self.assertIsNone(breaks_by(BOOK, Program([("nil", "y")]), starts, end, wishes=wishes))

    def test_no_room_for_a_new_cell(self):
        with self.assertRaises(Full):
            breaks_by(LISTS, Program([("new", "x")]), webs("x=1 1:list()"), [(0, chain(200))])
        self.assertEqual(breaks_by(LISTS, Program([("new", "x")]), webs("x=1 1:list()"), [(0, chain(199))]), "lost")


class Refused(unittest.TestCase):
    six = read_web("a=- b=- c=- d=- e=- f=-")
    good = read_web("x=1 1:list()")
    tree = read_web("x=1 1:tree()")
    deep = read_web("x=1 1:cell(2,3) 2:list() 3:ring()")
    program = Program([("nil", "x"), ("nil", "y")])

    def asked(self, starts, wishes, run):
        if run is None:
            return found_break(LISTS, self.program, starts, wishes=wishes)
        return breaks_by(LISTS, self.program, starts, run, wishes=wishes)

    def test_bad_item(self):
        good, tree, deep, six = self.good, self.tree, self.deep, self.six
        for starts, wishes, place in (
            ([tree, deep], None, 0), ([deep, tree], None, 2), ([good, deep], [tree], 2), ([good], [deep, tree], 2),
            ([good, good], [good, tree, deep], 0), ([six, deep], [tree], 2), ([six], [deep], 2), ([tree], [six], 0),
        ):
            for run in (None, [], [(0, tree), (1, deep)], [(0, deep), (1, tree)]):
                with self.assertRaises(BadItem) as caught:
                    self.asked(starts, wishes, run)
                self.assertEqual(caught.exception.place, place)
        for starts, wishes, run, place in (
            ([good], None, [(0, good), (1, deep), (0, tree)], 2), ([good], [good], [(2, tree), (1, deep)], 0),
            ([six], [six], [(0, good), (1, deep)], 2),
        ):
            with self.assertRaises(BadItem) as caught:
                self.asked(starts, wishes, run)
            self.assertEqual(caught.exception.place, place)

    def test_full(self):
        good, six = self.good, self.six
        for starts, wishes in (
            ([six], None), ([good, six], [good]), ([good], [six]), ([good], [good, six]), ([chain(200), six], None),
        ):
            for run in (None, [], [(0, read_web("x=- y=-"))]):
                with self.assertRaises(Full):
                    self.asked(starts, wishes, run)
        five = read_web("a=- b=- c=- d=- x=-")
        self.assertEqual(self.asked([five], [five], None), ("none", 3))


if __name__ == "__main__":
    unittest.main()
