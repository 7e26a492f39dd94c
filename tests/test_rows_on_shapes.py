"""Point 18: what a row tells of a web with shapes holds for all its heaps."""

import random
import unittest

from osier.growing import heaps_of, holds, openings
from osier.programs import Program, done, touched
from osier.webs import read_web
from samples import BOOK, some_book, some_row, some_web

CELLS = 4
# How many cells more a heap has behind the row, where nothing is left out.
MORE = {"new": 1, "free": -1}


def opened_where_touched(book, program, web):
    point = touched(program, 0, web)
    return openings(book, web, point) if point else [web]


class OnShapes(unittest.TestCase):
    def outcomes_of_heaps(self, book, program, web, cells):
        """The outcomes of all heaps up to so many cells, and the faults."""
        outcomes, faults = {}, set()
        for heap in heaps_of(book, web, cells=cells):
            told = done(program, 0, heap)
            if isinstance(told, str):
                faults.add(told)
            else:
                outcomes.update({(following, repr(made)): made for following, made in told})
        return outcomes, faults

    def outcomes_of_openings(self, book, program, web):
        outcomes, faults = [], set()
        for opening in opened_where_touched(book, program, web):
            told = done(program, 0, opening)
            if isinstance(told, str):
                faults.add(told)
            else:
                outcomes.extend(told)
        return outcomes, faults

    def agree(self, book, row, web, lossy):
        program = Program([row, ("go", 0), ("go", 0)], lossy=lossy)
        of_heaps, heap_faults = self.outcomes_of_heaps(book, program, web, CELLS)
        of_openings, opening_faults = self.outcomes_of_openings(book, program, web)
        # A fault of openings may need a heap of more cells, never the other way about.
        self.assertLessEqual(heap_faults, opening_faults)
        for (following, _), heap in of_heaps.items():
            webs = [made for number, made in of_openings if number == following]
            self.assertTrue(any(holds(book, made, heap) for made in webs), (row, web, heap))
        if not lossy:
            more = MORE.get(row[0], 0)
            texts = {(following, repr(heap)) for following, made in of_openings
                     for heap in heaps_of(book, made, cells=CELLS + more)}
            self.assertEqual(texts, set(of_heaps), (book.shape_rows(), row, web))
        return len(of_heaps)

    def test_lists_and_trees(self):
        for text in (
            "x=1 y=- 1:list()", "x=1 y=1 1:tree()", "x=1 y=2 1:part(2) 2:list()", "x=1 y=2 1:list() 2:ring()",
            "x=1 y=2 1:cell(-,2) 2:tree()", "x=1 y=* 1:ring()", "x=1 y=2 1:way(-,2) 2:back(1)",
        ):
            for row in (
                ("new", "x"), ("new", "y"), ("free", "x"), ("copy", "y", "x"), ("nil", "y"), ("read", "y", "x", "r"),
                ("read", "x", "x", "r"), ("write", "x", "l", "y"), ("write", "x", "r", "x"), ("clear", "x", "r"),
                ("same", "x", "y", 2), ("none", "x", 2), ("maybe", 2), ("go", 2), ("read", "x", "y", "l"),
            ):
                for lossy in (False, True):
                    self.agree(BOOK, row, read_web(text), lossy)

    def test_by_chance(self):
        chance = random.Random(18)
        many = 0
        for turn in range(400):
            book = BOOK if turn < 150 else some_book(chance)
            web = some_web(chance, book, chance.randint(1, 3))
            row = some_row(chance, [name for name, _ in web.name_rows()], 3)
            many += self.agree(book, row, web, turn % 2 == 0)
        self.assertGreater(many, 400)

    def test_faults_of_openings_are_faults_of_heaps(self):
        for text, row, fault in (
            ("x=1 y=- 1:list()", ("read", "x", "x", "r"), "lost"), ("x=1 1:list()", ("free", "x"), "lost"),
            ("x=1 1:list()", ("nil", "x"), "lost"), ("x=- y=1 1:list()", ("read", "y", "x", "l"), "nothing"),
            ("x=* y=1 1:list()", ("clear", "x", "l"), "gone"),
        ):
            program = Program([row])
            _, faults = self.outcomes_of_heaps(BOOK, program, read_web(text), CELLS)
            _, opened = self.outcomes_of_openings(BOOK, program, read_web(text))
            self.assertEqual((faults, opened), ({fault}, {fault}))


if __name__ == "__main__":
    unittest.main()
