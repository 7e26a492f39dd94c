"""Points 9, 13 and 14: the folds of a web in order."""

import random
import unittest

from osier.books import Book
from osier.errors import BadItem
from osier.folding import folds
from osier.growing import heaps_of, holds, openings
from osier.webs import read_web
from samples import (
    BACK, BOOK, FORK, LIST, LISTS, NONE, PART, RING, TREE, TREES, TWIN, WAY, folds_plainly, opened_by_chance,
    shown, some_book, some_web, webs,
)


class AtCells(unittest.TestCase):
    def fold(self, book, text, *told):
        web = read_web(text)
        self.assertEqual(shown(folds(book, web)), list(told))
        self.assertEqual(repr(web), text)

    def test_none(self):
        self.fold(NONE, "x=1 1:cell(-,-)")
        self.fold(BOOK, "empty")
        self.fold(BOOK, "x=- y=*")
        self.fold(LISTS, "x=1 1:list()")
        self.fold(LISTS, "x=1 1:cell(2,-) 2:list()")
        self.fold(TREES, "x=1 1:cell(1,-)")

    def test_by_points_then_shapes_then_rules(self):
        self.fold(
            LISTS, "x=1 1:cell(-,2) 2:cell(-,-)",
            "x=1 1:part(2) 2:cell(-,-)", "x=1 1:cell(-,2) 2:list()", "x=1 1:cell(-,2) 2:part(-)",
        )
        self.fold(
            Book([PART, LIST]), "x=1 1:cell(-,2) 2:cell(-,-)",
            "x=1 1:part(2) 2:cell(-,-)", "x=1 1:cell(-,2) 2:part(-)", "x=1 1:cell(-,2) 2:list()",
        )
        self.fold(LISTS, "x=1 1:cell(-,2) 2:list()", "x=1 1:list()", "x=1 1:part(2) 2:list()")
        self.fold(LISTS, "x=1 1:cell(-,2) 2:part(*)", "x=1 1:part(2) 2:part(*)", "x=1 1:part(*)")
        self.fold(
            Book([BACK, RING, PART, WAY]), "x=1 1:cell(-,1)",
            "x=1 1:ring()", "x=1 1:part(1)", "x=1 1:way(-,1)",
        )

    def test_alike_rules_fold_twice(self):
        book = Book([("pair", 1, [("-", "-", ()), ("a", "-", ()), ("-", "-", ())])])
        self.fold(book, "x=1 1:cell(-,-)", "x=1 1:pair()", "x=1 1:pair()")

    def test_targets_are_told_by_the_match(self):
        for told in ("-", "*", "1"):
            self.fold(Book([PART]), f"x=1 1:cell(-,{told})", f"x=1 1:part({told})")
        self.fold(Book([WAY]), "x=1 1:cell(*,-)", "x=1 1:way(*,-)")
        self.fold(Book([WAY]), "x=1 1:cell(1,1)", "x=1 1:way(1,1)")
        self.fold(Book([WAY]), "x=1 1:cell(-,2) 2:way(1,*)", "x=1 1:way(-,2) 2:way(1,*)", "x=1 1:way(-,*)")
        # The target of the inner item is not the point itself.
        self.fold(Book([WAY]), "x=1 1:cell(-,2) 2:way(-,*)", "x=1 1:way(-,2) 2:way(-,*)")
        self.fold(Book([BACK]), "x=1 1:cell(-,2) 2:back(1)", "x=1 1:back(-)")
        self.fold(Book([BACK]), "x=1 1:cell(*,2) 2:back(*)")

    def test_targets_alike(self):
        fork = Book([FORK, LIST])
        self.fold(fork, "x=1 1:cell(2,2) 2:list()", "x=1 1:fork(2) 2:list()")
        self.fold(Book([FORK]), "x=1 1:cell(-,*)")
        self.fold(Book([FORK]), "x=1 1:cell(*,*)", "x=1 1:fork(*)")
        self.fold(Book([FORK]), "x=1 1:cell(2,3) 2:fork(*) 3:fork(-)")
        self.fold(Book([FORK]), "x=1 1:cell(2,3) 2:fork(1) 3:fork(1)", "x=1 1:fork(1)")
        self.fold(fork, "x=1 1:cell(2,3) 2:fork(4) 3:fork(4) 4:list()", "x=1 1:fork(2) 2:list()")

    def test_inner_points_to_which_something_else_leads(self):
        self.fold(LISTS, "x=1 y=2 1:cell(-,2) 2:list()", "x=1 y=2 1:part(2) 2:list()")
        self.fold(
            Book([LIST]), "x=1 y=2 1:cell(-,3) 2:cell(-,3) 3:list()",
        )
        self.fold(TREES, "x=1 1:cell(2,2) 2:tree()")
        self.fold(TREES, "x=1 y=2 1:cell(2,3) 2:tree() 3:tree()")
        self.fold(Book([PART]), "x=1 1:cell(-,2) 2:part(2)", "x=1 1:part(2) 2:part(2)")
        # The inner item's own target leads to the other inner point.
        self.fold(
            Book([TWIN, PART]), "x=1 1:cell(2,3) 2:part(3) 3:part(2)", "x=1 1:twin()",
        )
        self.fold(Book([TWIN, PART]), "x=1 y=2 1:cell(2,3) 2:part(3) 3:part(2)")

    def test_two_inner_points(self):
        self.fold(TREES, "x=1 1:cell(2,3) 2:tree() 3:tree()", "x=1 1:tree()")
        self.fold(TREES, "x=1 1:cell(2,3) 2:tree() 3:cell(-,-)", "x=1 1:cell(2,3) 2:tree() 3:tree()")
        self.fold(TREES, "x=1 1:cell(2,3) 2:tree() 3:cell(*,-)")
        # An inner point is not the point itself, and not a point of the shape.
        near = Book([("near", 2, [("p", "b", (("leaf", ("p",)),))]), ("leaf", 1, [("a", "a", ())])])
        self.fold(near, "x=1 1:cell(2,3) 2:leaf() 3:leaf()", "x=1 1:near(2) 2:leaf()")
        self.fold(near, "x=1 1:cell(2,2) 2:leaf()")
        self.fold(near, "x=1 1:cell(2,*) 2:leaf()", "x=1 1:near(*)")
        self.fold(near, "x=1 1:cell(2,1) 2:leaf()", "x=1 1:near(1)")
        self.fold(near, "x=1 1:cell(-,2) 2:leaf()")
        self.fold(near, "x=1 1:cell(*,2) 2:leaf()")

    def test_letters_of_inner_shapes(self):
        odd = ("odd", 2, [("b", "b", ()), ("p", "b", (("odd", ("p", "p")),)), ("q", "b", (("odd", ("q", "-")),))])
        self.fold(Book([odd]), "x=1 1:cell(2,*) 2:odd(2)", "x=1 1:odd(*)")
        self.fold(Book([odd]), "x=1 1:cell(2,*) 2:odd(-)", "x=1 1:odd(*)")
        self.fold(Book([odd]), "x=1 1:cell(2,*) 2:odd(*)")
        self.fold(Book([odd]), "x=1 1:cell(2,*) 2:odd(1)")
        self.fold(Book([odd]), "x=1 1:cell(2,2) 2:odd(2)", "x=1 1:odd(2) 2:odd(2)")

    def test_points_behind_are_numbered_anew(self):
        self.fold(
            Book([LIST]), "x=1 y=2 1:cell(-,3) 2:cell(-,4) 3:list() 4:list()",
            "x=1 y=2 1:list() 2:cell(-,3) 3:list()", "x=1 y=2 1:cell(-,3) 2:list() 3:list()",
        )


class OfShapes(unittest.TestCase):
    def fold(self, book, text, *told):
        self.assertEqual(shown(folds(book, read_web(text))), list(told))

    def test_a_stretch_ahead_of_what_it_leads_into(self):
        self.fold(LISTS, "x=1 1:part(2) 2:list()", "x=1 1:list()")
        self.fold(LISTS, "x=1 1:part(2) 2:part(*)", "x=1 1:part(*)")
        self.fold(LISTS, "x=1 1:part(2) 2:part(3) 3:list()", "x=1 1:part(2) 2:list()", "x=1 1:part(2) 2:list()")
        self.fold(BOOK, "x=1 1:part(2) 2:tree()", "x=1 1:tree()")
        self.fold(BOOK, "x=1 1:part(2) 2:ring()")
        self.fold(BOOK, "x=1 1:part(2) 2:back(-)")
        self.fold(BOOK, "x=1 1:back(2) 2:list()")
        three = Book([PART, ("three", 3, [("b", "c", ()), ("-", "p", (("three", ("p", "b", "c")),))])])
        self.fold(three, "x=1 1:part(2) 2:three(1,*)", "x=1 1:three(1,*)")
        self.fold(Book([PART, LIST]), "x=1 1:part(2) 2:cell(1,1)")

    def test_what_leads_to_the_second_point(self):
        self.fold(LISTS, "x=1 y=2 1:part(2) 2:list()")
        self.fold(LISTS, "x=1 y=2 1:part(3) 2:part(3) 3:list()")
        self.fold(LISTS, "x=1 1:cell(2,3) 2:part(3) 3:list()")
        self.fold(LISTS, "x=1 1:part(2) 2:part(2)")
        self.fold(LISTS, "x=1 1:part(1)")
        self.fold(LISTS, "x=1 1:part(-)")
        self.fold(LISTS, "x=1 1:part(*)")
        # The second one leads to the first: one stretch to itself is left.
        self.fold(LISTS, "x=1 1:part(2) 2:part(1)", "x=1 1:part(1)")
        self.fold(LISTS, "x=1 y=2 1:part(2) 2:part(1)")

    def test_a_name_at_the_first_point_is_no_matter(self):
        self.fold(LISTS, "x=1 y=1 1:part(2) 2:list()", "x=1 y=1 1:list()")
        self.fold(LISTS, "x=1 1:cell(2,-) 2:part(3) 3:list()", "x=1 1:cell(2,-) 2:list()")


class ByChance(unittest.TestCase):
    def test_just_the_openings_taken_back_and_the_joins(self):
        chance = random.Random(13)
        many = 0
        for turn in range(70):
            book = (BOOK, LISTS, Book([TWIN, PART, FORK]))[turn % 3] if turn < 24 else some_book(chance)
            web = opened_by_chance(chance, book, some_web(chance, book, chance.randint(0, 3)), 4)
            told = [text for point in range(1, len(web) + 1) for text in folds_plainly(book, web, point)]
            self.assertEqual(shown(folds(book, web)), told, (book.shape_rows(), web))
            many += len(told)
        self.assertGreater(many, 100)

    def test_each_opening_folds_back_to_its_web(self):
        chance = random.Random(14)
        many = 0
        for turn in range(150):
            book = BOOK if turn < 40 else some_book(chance)
            web = some_web(chance, book, chance.randint(0, 6))
            for point, (word, _) in enumerate(web.item_rows(), start=1):
                if word != "cell":
                    for opening in openings(book, web, point):
                        self.assertIn(web, folds(book, opening))
                        many += 1
        self.assertGreater(many, 300)

    def test_each_heap_of_a_web_is_one_of_its_folds(self):
        chance = random.Random(15)
        for turn in range(100):
            book = BOOK if turn < 40 else some_book(chance)
            web = opened_by_chance(chance, book, some_web(chance, book, chance.randint(0, 4)), 6)
            for fold in folds(book, web):
                cells = [word for word, _ in web.item_rows()].count("cell")
                self.assertLess(len(fold) + [word for word, _ in fold.item_rows()].count("cell"), len(web) + cells)
                for heap in heaps_of(book, web, cells=5)[:10]:
                    self.assertTrue(holds(book, fold, heap))


class Told(unittest.TestCase):
    def test_a_told_list_is_the_askers_own(self):
        web = read_web("x=1 1:cell(-,2) 2:list()")
        told = folds(LISTS, web)
        self.assertIs(type(told), list)
        told.clear()
        self.assertEqual(folds(LISTS, web), webs("x=1 1:list()", "x=1 1:part(2) 2:list()"))

    def test_bad_item(self):
        for text, place in (
            ("x=1 1:tree()", 0), ("x=1 1:cell(-,2) 2:tree()", 1), ("x=1 1:cell(2,3) 2:list() 3:part()", 2),
            ("x=1 1:part(2) 2:list(-)", 1),
        ):
            with self.assertRaises(BadItem) as caught:
                folds(LISTS, read_web(text))
            self.assertEqual(caught.exception.place, place)


if __name__ == "__main__":
    unittest.main()
