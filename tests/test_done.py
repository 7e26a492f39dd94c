"""Points 16 and 17: rows done on webs."""

import random
import unittest

from osier.errors import Full, NoRow, Shut
from osier.programs import Program, done, ready, touched
from osier.webs import read_web
from samples import BOOK, NONE, chain, pruned, some_row, some_web

FAULTS = ("nothing", "gone", "lost")


def with_row(row, number=0, rows=6, lossy=False):
    """A program that has the row at that number."""
    told = [("maybe", 0)] * rows
    told[number] = row
    return Program(told, lossy=lossy)


def done_plainly(row, number, web, lossy):
    """What points 15 and 17 tell, by cells as lists that are changed."""
    names = dict(web.name_rows())
    items = {point: [word, list(targets)] for point, (word, targets) in enumerate(web.item_rows(), start=1)}
    word, places = row[0], row[1:]
    if word == "go":
        return [(places[0], web)]
    if word == "maybe":
        return [(following, web) for following in sorted({number + 1, places[0]}, key=lambda k: k != number + 1)]
    if word in ("same", "none"):
        asked = [names[name] for name in places[:-1]] + [0]
        if -1 in asked:
            return "gone"
        return [(places[-1] if asked[0] == asked[1] else number + 1, web)]
    if word in ("read", "free", "write", "clear"):
        cell = names[places[1] if word == "read" else places[0]]
        if cell < 1:
            return {0: "nothing", -1: "gone"}[cell]
    if word == "new":
        items[len(items) + 1] = ["cell", [0, 0]]
        names[places[0]] = len(items)
    elif word == "free":
        del items[cell]
        names = {name: -1 if target == cell else target for name, target in names.items()}
        for _, targets in items.values():
            targets[:] = [-1 if target == cell else target for target in targets]
    elif word == "copy":
        names[places[0]] = names[places[1]]
    elif word == "nil":
        names[places[0]] = 0
    elif word == "read":
        names[places[0]] = items[cell][1]["lr".index(places[2])]
    else:
        items[cell][1]["lr".index(places[1])] = names[places[2]] if word == "write" else 0
    made = pruned(sorted(names.items()), [items.get(point, ("", ())) for point in range(1, max(items, default=0) + 1)])
    if len(made) < len(items) and not lossy:
        return "lost"
    return [(number + 1, made)]


class Each(unittest.TestCase):
    def does(self, row, text, told, lossy=False, number=0):
        """Told is a fault's word, the text of the one outcome behind the row, or all outcomes."""
        web = read_web(text)
        program = with_row(row, number, lossy=lossy)
        outcomes = done(program, number, web)
        if told in FAULTS:
            self.assertEqual(outcomes, told)
        else:
            if isinstance(told, str):
                told = [(number + 1, told)]
            self.assertIs(type(outcomes), list)
            self.assertTrue(all(type(pair) is tuple for pair in outcomes))
            self.assertEqual([(following, repr(made)) for following, made in outcomes], told)
        self.assertEqual(repr(web), text)

    def both(self, row, text, told):
        self.does(row, text, told)
        self.does(row, text, told, lossy=True)

    def loses(self, row, text, told):
        self.does(row, text, "lost")
        self.does(row, text, told, lossy=True)

    def test_new(self):
        self.both(("new", "x"), "x=-", "x=1 1:cell(-,-)")
        self.both(("new", "x"), "x=*", "x=1 1:cell(-,-)")
        self.both(("new", "x"), "x=1 y=1 1:list()", "x=1 y=2 1:cell(-,-) 2:list()")
        self.loses(("new", "x"), "x=1 1:cell(-,-)", "x=1 1:cell(-,-)")
        self.loses(("new", "x"), "x=1 y=* 1:cell(-,2) 2:part(1)", "x=1 y=* 1:cell(-,-)")

    def test_free(self):
        self.both(("free", "x"), "x=-", "nothing")
        self.both(("free", "x"), "x=*", "gone")
        self.both(("free", "x"), "x=1 1:cell(-,-)", "x=*")
        self.both(("free", "x"), "x=1 y=1 1:cell(1,1)", "x=* y=*")
        self.both(("free", "x"), "x=1 y=2 1:cell(-,2) 2:cell(1,2)", "x=* y=1 1:cell(*,1)")
        self.both(("free", "x"), "x=1 y=2 1:cell(-,2) 2:part(1)", "x=* y=1 1:part(*)")
        self.both(("free", "x"), "x=1 y=2 z=3 1:cell(-,-) 2:way(1,1) 3:list()", "x=* y=1 z=2 1:way(*,*) 2:list()")
        self.loses(("free", "x"), "x=1 1:cell(-,2) 2:list()", "x=*")
        self.loses(("free", "x"), "x=1 y=- 1:cell(2,3) 2:cell(1,3) 3:cell(-,-)", "x=* y=-")

    def test_copy_and_nil(self):
        for target in ("-", "*"):
            self.both(("copy", "x", "y"), f"x=- y={target}", f"x={target} y={target}")
            self.both(("copy", "x", "y"), f"x=* y={target}", f"x={target} y={target}")
            self.loses(("copy", "x", "y"), f"x=1 y={target} 1:list()", f"x={target} y={target}")
            self.both(("nil", "x"), f"x={target} y=*", "x=- y=*")
        self.both(("copy", "x", "y"), "x=- y=1 1:list()", "x=1 y=1 1:list()")
        self.both(("copy", "x", "x"), "x=1 1:list()", "x=1 1:list()")
        self.loses(("copy", "x", "y"), "x=1 y=2 1:part(2) 2:list()", "x=1 y=1 1:list()")
        self.both(("copy", "y", "x"), "x=1 y=2 1:part(2) 2:list()", "x=1 y=1 1:part(2) 2:list()")
        self.loses(("nil", "x"), "x=1 1:cell(-,-)", "x=-")
        self.loses(("nil", "x"), "x=1 1:cell(1,2) 2:list()", "x=-")
        self.both(("nil", "x"), "x=1 y=1 1:list()", "x=- y=1 1:list()")

    def test_read(self):
        self.both(("read", "x", "y", "l"), "x=- y=-", "nothing")
        self.both(("read", "x", "y", "r"), "x=- y=*", "gone")
        self.both(("read", "x", "y", "l"), "x=* y=1 1:cell(-,*)", "x=- y=1 1:cell(-,*)")
        self.both(("read", "x", "y", "r"), "x=- y=1 1:cell(-,*)", "x=* y=1 1:cell(-,*)")
        self.both(("read", "x", "y", "r"), "x=- y=1 1:cell(-,1)", "x=1 y=1 1:cell(-,1)")
        two = "x=- y=1 1:cell(2,3) 2:list() 3:tree()"
        self.both(("read", "x", "y", "l"), two, "x=1 y=2 1:list() 2:cell(1,3) 3:tree()")
        self.both(("read", "x", "y", "r"), two, "x=1 y=2 1:tree() 2:cell(3,1) 3:list()")
        self.loses(("read", "x", "x", "r"), "x=1 1:cell(-,2) 2:list()", "x=1 1:list()")
        self.loses(("read", "x", "x", "l"), "x=1 1:cell(-,2) 2:list()", "x=-")
        self.both(("read", "x", "x", "r"), "x=1 1:cell(-,2) 2:part(1)", "x=1 1:part(2) 2:cell(-,1)")
        self.loses(("read", "x", "y", "r"), "x=1 y=2 1:list() 2:cell(-,-)", "x=- y=1 1:cell(-,-)")

    def test_write_and_clear(self):
        for row in (("write", "x", "l", "y"), ("clear", "x", "r")):
            self.both(row, "x=- y=-", "nothing")
            self.both(row, "x=* y=-", "gone")
        self.both(("write", "x", "l", "y"), "x=1 y=2 1:cell(-,-) 2:list()", "x=1 y=2 1:cell(2,-) 2:list()")
        self.both(("write", "x", "r", "y"), "x=1 y=2 1:cell(-,-) 2:list()", "x=1 y=2 1:cell(-,2) 2:list()")
        self.both(("write", "x", "r", "y"), "x=1 y=* 1:cell(-,-)", "x=1 y=* 1:cell(-,*)")
        self.both(("write", "x", "r", "y"), "x=1 y=- 1:cell(-,*)", "x=1 y=- 1:cell(-,-)")
        self.both(("write", "x", "l", "x"), "x=1 1:cell(-,*)", "x=1 1:cell(1,*)")
        self.loses(("write", "x", "l", "x"), "x=1 1:cell(2,-) 2:list()", "x=1 1:cell(1,-)")
        two = "x=1 y=2 1:cell(2,3) 2:cell(-,-) 3:tree()"
        self.loses(("write", "x", "r", "y"), two, "x=1 y=2 1:cell(2,2) 2:cell(-,-)")
        self.both(("clear", "x", "l"), "x=1 1:cell(*,1)", "x=1 1:cell(-,1)")
        self.both(("clear", "x", "r"), "x=1 1:cell(*,1)", "x=1 1:cell(*,-)")
        self.both(("clear", "x", "r"), "x=1 y=2 1:cell(-,2) 2:list()", "x=1 y=2 1:cell(-,-) 2:list()")
        self.loses(("clear", "x", "r"), "x=1 1:cell(-,2) 2:part(1)", "x=1 1:cell(-,-)")

    def test_same(self):
        for text, leaps in (
            ("x=- y=-", True), ("x=1 y=1 1:list()", True), ("x=1 y=1 1:cell(-,-)", True), ("x=1 y=- 1:list()", False),
            ("x=- y=1 1:list()", False), ("x=1 y=2 1:list() 2:list()", False),
            ("x=1 y=2 1:cell(-,-) 2:cell(-,-)", False),
        ):
            for jump in range(7):
                told = [(jump if leaps else 3, text)]
                for lossy in (False, True):
                    self.does(("same", "x", "y", jump), text, told, lossy, number=2)
        for text in ("x=* y=*", "x=- y=*", "x=* y=-", "x=1 y=* 1:list()", "x=* y=1 1:list()"):
            self.both(("same", "x", "y", 4), text, "gone")
        self.both(("same", "x", "x", 4), "x=*", "gone")
        self.both(("same", "x", "x", 4), "x=1 1:tree()", [(4, "x=1 1:tree()")])
        self.both(("same", "x", "x", 4), "x=- y=*", [(4, "x=- y=*")])

    def test_none(self):
        for jump in range(7):
            self.does(("none", "x", jump), "x=-", [(jump, "x=-")], number=3)
            self.does(("none", "x", jump), "x=1 1:list()", [(4, "x=1 1:list()")], number=3)
            self.does(("none", "x", jump), "x=1 1:cell(-,-)", [(4, "x=1 1:cell(-,-)")], number=3)
            self.does(("none", "x", jump), "x=* y=-", "gone", number=3)
            self.does(("none", "x", jump), "x=- y=*", [(jump, "x=- y=*")], number=3)

    def test_maybe_and_go(self):
        for text in ("x=*", "empty", "x=1 1:list()"):
            for jump in range(7):
                two = [(3, text)] if jump == 3 else [(3, text), (jump, text)]
                self.does(("maybe", jump), text, two, number=2)
                self.does(("go", jump), text, [(jump, text)], number=2)
                self.does(("go", jump), text, [(jump, text)], lossy=True, number=5)
        self.does(("maybe", 6), "x=-", [(6, "x=-")], number=5)
        self.does(("maybe", 5), "x=-", [(6, "x=-"), (5, "x=-")], number=5)

    def test_a_told_list_is_the_askers_own(self):
        program, web = with_row(("maybe", 4)), read_web("x=-")
        done(program, 0, web).clear()
        self.assertEqual(done(program, 0, web), [(1, web), (4, web)])

    def test_by_chance(self):
        chance = random.Random(17)
        seen = {}
        for turn in range(3000):
            web = some_web(chance, (BOOK, NONE)[turn % 2], chance.randint(0, 5), 6)
            names = [name for name, _ in web.name_rows()]
            number = chance.randint(0, 5)
            row = some_row(chance, names, 6)
            lossy = chance.random() < 0.5
            program = with_row(row, number, lossy=lossy)
            text = repr(web)
            point = touched(program, number, web)
            if point and web.item_rows()[point - 1][0] != "cell":
                with self.assertRaises(Shut) as caught:
                    done(program, number, web)
                self.assertEqual(caught.exception.point, point)
                kind = "shut"
            else:
                told = done(program, number, web)
                self.assertEqual(told, done_plainly(row, number, web, lossy), (row, number, web, lossy))
                kind = told if isinstance(told, str) else "done"
            self.assertEqual(repr(web), text)
            seen[kind] = seen.get(kind, 0) + 1
        self.assertEqual(sorted(seen), ["done", "gone", "lost", "nothing", "shut"])
        self.assertGreater(min(seen.values()), 50)


class Touched(unittest.TestCase):
    def test_which_point(self):
        text = "u=* v=- x=1 y=2 1:cell(-,-) 2:list()"
        web = read_web(text)
        for row, point in (
            (("read", "v", "x", "l"), 1), (("read", "x", "y", "r"), 2), (("read", "x", "v", "r"), 0),
            (("read", "x", "u", "r"), 0), (("free", "x"), 1), (("free", "y"), 2), (("free", "v"), 0),
            (("free", "u"), 0),
            (("write", "x", "l", "y"), 1), (("write", "y", "l", "x"), 2), (("write", "v", "l", "x"), 0),
            (("write", "u", "r", "x"), 0), (("clear", "x", "l"), 1), (("clear", "y", "r"), 2), (("clear", "v", "r"), 0),
            (("clear", "u", "r"), 0), (("new", "x"), 0), (("copy", "x", "y"), 0), (("nil", "y"), 0),
            (("same", "x", "y", 0), 0), (("none", "x", 0), 0), (("maybe", 0), 0), (("go", 0), 0),
        ):
            for number in (0, 3, 5):
                self.assertEqual(touched(with_row(row, number), number, web), point, row)
                self.assertEqual(touched(with_row(row, number, lossy=True), number, web), point, row)
        self.assertEqual(repr(web), text)


class Refused(unittest.TestCase):
    def test_no_row(self):
        web = read_web("x=*")
        for rows in (1, 5, 24):
            program = Program([("free", "x")] * rows)
            for number in (rows, rows + 1, rows + 100, -1, -rows, -100):
                for asked in (touched, done):
                    with self.assertRaises(NoRow) as caught:
                        asked(program, number, web)
                    self.assertEqual(caught.exception.number, number)
            self.assertEqual(done(program, rows - 1, web), "gone")

    def test_shut(self):
        web = read_web("x=- y=1 z=2 1:cell(2,-) 2:part(1)")
        for row in (("read", "x", "z", "l"), ("free", "z"), ("write", "z", "l", "x"), ("clear", "z", "r"),
                    ("read", "z", "z", "r"), ("write", "z", "r", "z")):
            for lossy in (False, True):
                with self.assertRaises(Shut) as caught:
                    done(with_row(row, lossy=lossy), 0, web)
                self.assertEqual(caught.exception.point, 2)
        # Rows that touch no cell let shapes be.
        for row in (("new", "x"), ("copy", "x", "z"), ("nil", "x"), ("same", "x", "z", 0), ("none", "z", 0),
                    ("write", "y", "r", "z"), ("read", "x", "y", "l")):
            self.assertIs(type(done(with_row(row), 0, web)), list)

    def test_new_at_two_hundred_points(self):
        for lossy in (False, True):
            program = Program([("new", "x"), ("new", "y")], lossy=lossy)
            # x leads to all cells: they would be lost, or left out.
            for number in (0, 1):
                with self.assertRaises(Full):
                    done(program, number, ready(program, chain(200)))
            [(following, made)] = done(program, 1, ready(program, chain(199)))
            self.assertEqual((following, len(made)), (2, 200))
            with self.assertRaises(Full):
                done(program, 1, made)
        self.assertEqual(done(Program([("new", "x")]), 0, chain(199)), "lost")
        self.assertEqual(done(Program([("new", "x")], lossy=True), 0, chain(199)), [(1, chain(1))])

    def test_other_rows_at_two_hundred_points(self):
        program = Program([("free", "x"), ("nil", "x"), ("clear", "x", "l"), ("copy", "y", "x")], lossy=True)
        web = ready(program, chain(200))
        self.assertEqual([repr(made) for _, made in done(program, 0, web)], ["x=* y=-"])
        self.assertEqual([repr(made) for _, made in done(program, 1, web)], ["x=- y=-"])
        self.assertEqual(done(program, 2, web), [(3, web)])
        self.assertEqual([len(made) for _, made in done(program, 3, web)], [200])


if __name__ == "__main__":
    unittest.main()
