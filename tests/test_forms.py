"""Points 9 and 14: folded, forms and comes_to."""

import random
import unittest

from osier.books import Book
from osier.errors import BadItem
from osier.folding import comes_to, folded, folds, forms
from osier.growing import grown
from osier.webs import Web, read_web
from samples import (
    BOOK, EIGHT_NAMES, FORK, LIST, LISTS, NONE, PART, RING, TREE, TREES, TWIN, all_by_folds, chain, changed_by_chance,
    folds_plainly, full_tree, opened_by_chance, shown, some_book, some_web, webs,
)


def folded_plainly(book, web):
    """The first fold at a point without a name, again and again."""
    while True:
        named = [target for _, target in web.name_rows()]
        nameless = [point for point in range(1, len(web) + 1) if point not in named]
        texts = [text for point in nameless for text in folds_plainly(book, web, point)]
        if not texts:
            return web
        web = read_web(texts[0])


class Folded(unittest.TestCase):
    def fold(self, book, text, told):
        web = read_web(text)
        self.assertEqual(repr(folded(book, web)), told)
        self.assertEqual(repr(web), text)

    def test_points_with_names_stay(self):
        self.fold(LISTS, "x=1 1:cell(-,-)", "x=1 1:cell(-,-)")
        self.fold(LISTS, "x=1 1:cell(-,2) 2:list()", "x=1 1:cell(-,2) 2:list()")
        self.fold(LISTS, "x=1 1:part(2) 2:list()", "x=1 1:part(2) 2:list()")
        self.fold(LISTS, "x=1 1:cell(-,2) 2:cell(-,-)", "x=1 1:cell(-,2) 2:list()")
        self.fold(LISTS, "x=1 y=2 1:cell(-,2) 2:cell(-,-)", "x=1 y=2 1:cell(-,2) 2:cell(-,-)")

    def test_again_and_again(self):
        for cells in range(2, 12):
            self.assertEqual(repr(folded(LISTS, chain(cells))), "x=1 1:cell(-,2) 2:list()")
            self.assertEqual(repr(folded(LISTS, chain(cells, -1))), "x=1 1:cell(-,2) 2:part(*)")
            self.assertEqual(repr(folded(LISTS, chain(cells, 1))), "x=1 1:cell(-,2) 2:part(1)")
            self.assertEqual(folded(NONE, chain(cells)), chain(cells))
        self.fold(LISTS, "x=1 1:part(2) 2:part(3) 3:part(4) 4:list()", "x=1 1:part(2) 2:list()")
        self.fold(
            LISTS, "x=1 y=2 1:cell(-,3) 2:cell(-,-) 3:cell(-,4) 4:cell(-,2)",
            "x=1 y=2 1:cell(-,3) 2:cell(-,-) 3:part(2)",
        )
        self.assertEqual(repr(folded(TREES, full_tree(7))), "x=1 1:cell(2,3) 2:tree() 3:tree()")
        self.assertEqual(repr(folded(TREES, full_tree(40))), "x=1 1:cell(2,3) 2:tree() 3:tree()")

    def test_the_first_shape_of_the_book_goes_ahead(self):
        self.fold(Book([LIST, TREE]), "x=1 1:cell(2,2) 2:cell(-,-)", "x=1 1:cell(2,2) 2:list()")
        self.fold(Book([TREE, LIST]), "x=1 1:cell(2,2) 2:cell(-,-)", "x=1 1:cell(2,2) 2:tree()")
        # By points first: the stretch is made ahead of what stands behind it.
        self.fold(Book([PART, LIST]), "x=1 1:cell(-,2) 2:cell(-,3) 3:cell(-,-)", "x=1 1:cell(-,2) 2:part(-)")
        ring = "x=1 1:cell(-,2) 2:cell(-,3) 3:cell(3,-)"
        self.fold(Book([TREE, PART]), ring, "x=1 1:cell(-,2) 2:part(3) 3:cell(3,-)")

    def test_long_webs(self):
        self.assertEqual(repr(folded(BOOK, chain(200))), "x=1 1:cell(-,2) 2:list()")
        items = [("part", (point + 1,)) for point in range(1, 200)] + [("list", ())]
        self.assertEqual(repr(folded(BOOK, Web([("x", 1)], items))), "x=1 1:part(2) 2:list()")

    def test_by_chance(self):
        chance = random.Random(141)
        folding = 0
        for turn in range(120):
            book = (BOOK, LISTS, TREES)[turn % 3] if turn < 45 else some_book(chance)
            web = opened_by_chance(chance, book, some_web(chance, book, chance.randint(0, 4), 1), 4)
            before = repr(web)
            told = folded(book, web)
            self.assertEqual(repr(web), before)
            self.assertEqual(told, folded_plainly(book, web), (book.shape_rows(), web))
            self.assertEqual(folded(book, told), told)
            self.assertTrue(comes_to(book, web, [told]))
            folding += told != web
        self.assertGreater(folding, 20)

    def test_bad_item(self):
        with self.assertRaises(BadItem) as caught:
            folded(LISTS, read_web("x=1 1:cell(2,3) 2:list() 3:tree()"))
        self.assertEqual(caught.exception.place, 2)


class Forms(unittest.TestCase):
    def form(self, book, text, *told):
        web = read_web(text)
        self.assertEqual(shown(forms(book, web)), list(told))
        self.assertEqual(repr(web), text)

    def test_a_web_without_folds(self):
        for text in ("empty", "x=- y=*", "x=1 1:list()", "x=1 1:cell(2,-) 2:list()"):
            self.form(LISTS, text, text)
        self.form(NONE, "x=1 1:cell(-,-)", "x=1 1:cell(-,-)")

    def test_several_forms(self):
        self.form(LISTS, "x=1 1:cell(-,-)", "x=1 1:list()", "x=1 1:part(-)")
        self.form(LISTS, "x=1 1:cell(-,2) 2:cell(-,-)", "x=1 1:list()", "x=1 1:part(-)")
        self.form(LISTS, "x=1 1:cell(-,2) 2:cell(-,3) 3:cell(-,*)", "x=1 1:part(*)")
        self.form(Book([RING, PART]), "x=1 1:cell(-,2) 2:cell(-,1)", "x=1 1:part(1)", "x=1 1:ring()")
        self.form(
            Book([LIST, TREE]), "x=1 y=2 1:cell(-,-) 2:cell(-,-)",
            "x=1 y=2 1:list() 2:list()", "x=1 y=2 1:list() 2:tree()",
            "x=1 y=2 1:tree() 2:list()", "x=1 y=2 1:tree() 2:tree()",
        )
        self.form(TREES, "x=1 1:cell(2,3) 2:cell(-,-) 3:cell(4,-) 4:cell(-,-)", "x=1 1:tree()")

    def test_by_chance(self):
        chance = random.Random(142)
        for turn in range(100):
            book = (BOOK, LISTS, TREES)[turn % 3] if turn < 45 else some_book(chance)
            web = opened_by_chance(chance, book, some_web(chance, book, chance.randint(0, 4)), 6)
            found = all_by_folds(book, web)
            if found is not None:
                last = [text for text in sorted(found) if not folds(book, found[text])]
                self.assertEqual(shown(forms(book, web)), last)

    def test_a_told_list_is_the_askers_own(self):
        told = forms(LISTS, chain(2))
        self.assertIs(type(told), list)
        told.clear()
        self.assertEqual(forms(LISTS, chain(2)), webs("x=1 1:list()", "x=1 1:part(-)"))

    def test_bad_item(self):
        with self.assertRaises(BadItem) as caught:
            forms(LISTS, read_web("x=1 1:cell(2,3) 2:list() 3:tree()"))
        self.assertEqual(caught.exception.place, 2)


class ComesTo(unittest.TestCase):
    def test_itself_and_none(self):
        for text in ("empty", "x=-", "x=1 1:list()", "x=1 1:cell(-,2) 2:part(*)", "x=1 1:cell(1,1)"):
            web = read_web(text)
            self.assertIs(comes_to(LISTS, web, [web]), True)
            self.assertIs(comes_to(LISTS, web, []), False)
            self.assertIs(comes_to(LISTS, web, webs("x=* y=*", text)), True)
        self.assertIs(comes_to(NONE, chain(2), [chain(2)]), True)
        self.assertIs(comes_to(NONE, chain(2), [chain(1), chain(3)]), False)

    def test_each_web_on_the_way(self):
        web = chain(4)
        for text in (
            "x=1 1:list()", "x=1 1:part(-)", "x=1 1:part(2) 2:list()", "x=1 1:part(2) 2:part(3) 3:list()",
            "x=1 1:cell(-,2) 2:list()", "x=1 1:part(2) 2:cell(-,3) 3:cell(-,4) 4:list()", "x=1 1:cell(-,2) 2:part(-)",
            "x=1 1:part(2) 2:part(3) 3:part(4) 4:part(-)",
        ):
            self.assertIs(comes_to(LISTS, web, webs(text)), True, text)
        for text in (
            "x=1 1:part(*)", "x=1 1:part(1)", "x=1 y=- 1:list()", "y=1 1:list()", "x=-", "x=1 1:cell(-,-)", "empty",
            "x=1 1:part(2) 2:part(3) 3:part(4) 4:part(5) 5:list()", "x=1 1:cell(2,-) 2:list()",
            "x=1 1:part(2) 2:cell(-,2)",
        ):
            self.assertIs(comes_to(LISTS, web, webs(text)), False, text)

    def test_no_way_back(self):
        self.assertIs(comes_to(LISTS, read_web("x=1 1:list()"), [chain(1)]), False)
        self.assertIs(comes_to(LISTS, read_web("x=1 1:list()"), webs("x=1 1:part(2) 2:list()")), False)
        self.assertIs(comes_to(LISTS, read_web("x=1 1:list()"), webs("x=1 1:part(-)")), False)

    def test_ten_points_and_many_ways(self):
        shapes = []
        for at, name in enumerate(EIGHT_NAMES):
            one, two = EIGHT_NAMES[(at + 1) % 8], EIGHT_NAMES[(at + 3) % 8]
            shapes.append((name, 1, [
                ("-", "-", ()), ("p", "q", ((one, ("p",)), (two, ("q",)))), ("p", "q", ((two, ("p",)), (one, ("q",)))),
                ("p", "-", ((one, ("p",)),)), ("-", "p", ((two, ("p",)),)),
            ]))
        book = Book(shapes)
        self.assertIs(comes_to(book, full_tree(10), webs("x=1 1:ha()")), True)
        self.assertIs(comes_to(book, full_tree(10), webs("x=1 1:cell(2,3) 2:ha() 3:cell(4,5) 4:hb() 5:hc()")), True)
        self.assertIs(comes_to(book, full_tree(10), webs("x=1 1:cell(2,3) 2:ha() 3:cell(4,-) 4:hb()")), False)

    def test_stretches_within(self):
        web = read_web("x=1 1:cell(-,2) 2:part(3) 3:cell(-,4) 4:part(5) 5:cell(-,-)")
        for text, told in (
            ("x=1 1:list()", True), ("x=1 1:cell(-,2) 2:list()", True), ("x=1 1:part(2) 2:cell(-,3) 3:list()", True),
            ("x=1 1:cell(-,2) 2:part(3) 3:part(4) 4:cell(-,-)", True), ("x=1 1:cell(-,2) 2:cell(-,3) 3:list()", False),
        ):
            self.assertIs(comes_to(LISTS, web, webs(text)), told, text)
        # Without a rule for the join the stretch stays.
        book = Book([PART, ("list", 1, [("-", "-", ())])])
        self.assertIs(comes_to(book, read_web("x=1 1:part(2) 2:list()"), webs("x=1 1:list()")), False)

    def test_by_chance(self):
        chance = random.Random(143)
        counts = [0, 0]
        books = (BOOK, LISTS, TREES, Book([TWIN, PART, FORK, LIST]), Book([RING, PART]))
        for turn in range(200):
            book = books[turn % 5] if turn < 60 else some_book(chance)
            first = some_web(chance, book, chance.randint(0, 4))
            web = opened_by_chance(chance, book, first, 8)
            found = all_by_folds(book, web)
            if found is None:
                continue
            others = [first] + chance.sample(list(found.values()), min(4, len(found)))
            for other in list(others):
                opened = opened_by_chance(chance, book, other, 9)
                others += [opened] + folds(book, opened)[:3]
                others += [web for web in (changed_by_chance(chance, other),) if web is not None]
            for other in others:
                told = comes_to(book, web, [other])
                self.assertIs(told, repr(other) in found, (book.shape_rows(), web, other))
                counts[told] += 1
            self.assertTrue(comes_to(book, web, others))
        self.assertGreater(min(counts), 500)

    def test_what_is_handed_in_stays(self):
        web, others = chain(3), webs("x=1 1:part(*)", "x=1 1:list()")
        self.assertIs(comes_to(LISTS, web, others), True)
        self.assertEqual((web, others), (chain(3), webs("x=1 1:part(*)", "x=1 1:list()")))

    def test_a_heap_comes_to_its_web(self):
        web = read_web("x=1 y=2 1:part(2) 2:tree()")
        for choices in ([], [1, 1, 3], [1, 0, 2, 1], [0, 3, 0, 0]):
            self.assertIs(comes_to(BOOK, grown(BOOK, web, choices), [web]), True)

    def test_bad_item(self):
        tree, deep = read_web("x=1 1:tree()"), read_web("x=1 1:cell(2,3) 2:list() 3:tree()")
        good = chain(1)
        for web, others, place in (
            (tree, [deep], 0), (deep, [tree], 2), (good, [deep, tree], 2), (good, [good, tree, deep], 0),
            (good, [good, good, deep], 2),
        ):
            with self.assertRaises(BadItem) as caught:
                comes_to(LISTS, web, others)
            self.assertEqual(caught.exception.place, place)


if __name__ == "__main__":
    unittest.main()
