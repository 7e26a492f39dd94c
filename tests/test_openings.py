"""Points 1, 9 and 10: the openings of a web's points."""

import random
import unittest

from osier.books import Book
from osier.errors import BadItem, Full
from osier.growing import openings
from osier.webs import Web, read_web
from samples import BOOK, FORK, LIST, NONE, PART, TWIN, chain, shown, some_book, some_web


def opened_plainly(book, web, point):
    """What point 10 tells, made by other means: letters are replaced in the text of each rule."""
    word, targets = web.item_rows()[point - 1]
    if word == "cell":
        return [web]
    told = []
    for left, right, inner in book.rules(word):
        leads = {"-": 0, "a": point}
        for letter, target in zip("bc", targets):
            leads[letter] = target
        for _, letters in inner:
            leads[letters[0]] = len(web) + "pq".index(letters[0]) + 1
        items = {number: item for number, item in enumerate(web.item_rows(), start=1)}
        items[point] = ("cell", (leads[left], leads[right]))
        for name, letters in inner:
            items[leads[letters[0]]] = (name, tuple(leads[letter] for letter in letters[1:]))
        # An inner q may stand without p: its number is closed up.
        numbers = {0: 0, -1: -1}
        for number in sorted(items):
            numbers[number] = len(numbers) - 1
        rows = [(name, [numbers[target] for target in led]) for _, (name, led) in sorted(items.items())]
        told.append(Web([(name, numbers[target]) for name, target in web.name_rows()], rows))
    return told


class Told(unittest.TestCase):
    def opens(self, book, text, point, *told):
        web = read_web(text)
        self.assertEqual(shown(openings(book, web, point)), list(told))
        self.assertEqual(repr(web), text)

    def test_a_cell(self):
        self.opens(BOOK, "x=1 1:cell(-,-)", 1, "x=1 1:cell(-,-)")
        self.opens(NONE, "x=1 y=2 1:cell(2,*) 2:cell(1,2)", 2, "x=1 y=2 1:cell(2,*) 2:cell(1,2)")
        self.opens(BOOK, "x=1 1:cell(-,2) 2:list()", 1, "x=1 1:cell(-,2) 2:list()")

    def test_one_point(self):
        self.opens(BOOK, "x=1 1:list()", 1, "x=1 1:cell(-,-)", "x=1 1:cell(-,2) 2:list()")
        self.opens(
            BOOK, "x=1 1:tree()", 1,
            "x=1 1:cell(-,-)", "x=1 1:cell(2,-) 2:tree()", "x=1 1:cell(-,2) 2:tree()",
            "x=1 1:cell(2,3) 2:tree() 3:tree()",
        )
        self.opens(BOOK, "x=1 1:ring()", 1, "x=1 1:cell(-,1)", "x=1 1:cell(-,2) 2:part(1)")

    def test_two_points(self):
        self.opens(BOOK, "x=1 1:part(-)", 1, "x=1 1:cell(-,-)", "x=1 1:cell(-,2) 2:part(-)")
        self.opens(BOOK, "x=1 1:part(*)", 1, "x=1 1:cell(-,*)", "x=1 1:cell(-,2) 2:part(*)")
        self.opens(BOOK, "x=1 1:part(1)", 1, "x=1 1:cell(-,1)", "x=1 1:cell(-,2) 2:part(1)")
        self.opens(
            BOOK, "x=1 y=2 1:part(2) 2:list()", 1,
            "x=1 y=2 1:cell(-,2) 2:list()", "x=1 y=2 1:cell(-,3) 2:list() 3:part(2)",
        )
        self.opens(
            BOOK, "x=1 1:part(2) 2:part(1)", 2,
            "x=1 1:part(2) 2:cell(-,1)", "x=1 1:part(2) 2:cell(-,3) 3:part(1)",
        )
        self.opens(BOOK, "x=1 1:back(-)", 1, "x=1 1:cell(-,-)", "x=1 1:cell(-,2) 2:back(1)")

    def test_three_points(self):
        self.opens(BOOK, "x=1 1:way(-,*)", 1, "x=1 1:cell(-,*)", "x=1 1:cell(-,2) 2:way(1,*)")
        self.opens(
            BOOK, "x=1 y=2 z=3 1:way(2,3) 2:cell(1,-) 3:list()", 1,
            "x=1 y=2 z=3 1:cell(2,3) 2:cell(1,-) 3:list()",
            "x=1 y=2 z=3 1:cell(2,4) 2:cell(1,-) 3:list() 4:way(1,3)",
        )
        self.opens(BOOK, "x=1 1:way(1,1)", 1, "x=1 1:cell(1,1)", "x=1 1:cell(1,2) 2:way(1,1)")

    def test_points_are_numbered_anew(self):
        # The new points are met ahead of what hangs behind the second point.
        self.opens(
            Book([FORK, LIST]), "x=1 1:fork(2) 2:list()", 1,
            "x=1 1:cell(2,2) 2:list()", "x=1 1:cell(2,3) 2:fork(4) 3:fork(4) 4:list()",
        )
        self.opens(BOOK, "x=1 1:part(2) 2:list()", 1, "x=1 1:cell(-,2) 2:list()", "x=1 1:cell(-,2) 2:part(3) 3:list()")

    def test_inner_shapes_that_know_of_each_other(self):
        self.opens(Book([TWIN, PART]), "x=1 1:twin()", 1, "x=1 1:cell(2,3) 2:part(3) 3:part(2)", "x=1 1:cell(1,-)")

    def test_inner_letters_of_all_kinds(self):
        odd = ("odd", 3, [
            ("q", "-", (("odd", ("q", "c", "b")),)),
            ("q", "p", (("odd", ("q", "b", "a")), ("odd", ("p", "p", "c")))),
            ("b", "c", ()),
        ])
        self.opens(
            Book([odd]), "x=1 1:odd(-,*)", 1,
            "x=1 1:cell(2,-) 2:odd(*,-)", "x=1 1:cell(2,3) 2:odd(-,1) 3:odd(3,*)", "x=1 1:cell(-,*)",
        )

    def test_alike_rules_are_told_twice(self):
        book = Book([("pair", 1, [("-", "-", ()), ("-", "-", ())])])
        self.opens(book, "x=1 1:pair()", 1, "x=1 1:cell(-,-)", "x=1 1:cell(-,-)")

    def test_webs_by_chance(self):
        chance = random.Random(10)
        for turn in range(150):
            book = BOOK if turn < 30 else some_book(chance)
            web = some_web(chance, book, chance.randint(0, 6))
            before = (repr(web), book.shape_rows())
            for point in range(1, len(web) + 1):
                self.assertEqual(openings(book, web, point), opened_plainly(book, web, point))
            self.assertEqual((repr(web), book.shape_rows()), before)

    def test_a_told_list_is_the_askers_own(self):
        for text, many in (("x=1 1:list()", 2), ("x=1 1:cell(-,-)", 1)):
            web = read_web(text)
            told = openings(BOOK, web, 1)
            self.assertIs(type(told), list)
            texts = shown(told)
            told.clear()
            again = openings(BOOK, web, 1)
            self.assertEqual(shown(again), texts)
            self.assertEqual(len(again), many)
            again.append(None)
            self.assertEqual(shown(openings(BOOK, web, 1)), texts)


class Refused(unittest.TestCase):
    def with_cells(self, word, targets, cells):
        """A point with a shape, and so many cells hanging at another name."""
        heap = chain(cells).item_rows()
        items = [("cell", tuple(target + 1 if target else 0 for target in fields)) for _, fields in heap]
        return Web([("a", 1), ("x", 2)], [(word, targets)] + items)

    def test_two_hundred_points_are_not_too_many(self):
        told = openings(BOOK, self.with_cells("tree", (), 197), 1)
        self.assertEqual([len(web) for web in told], [198, 199, 199, 200])
        told = openings(BOOK, self.with_cells("list", (), 198), 1)
        self.assertEqual([len(web) for web in told], [199, 200])

    def test_full_where_one_has_more(self):
        for word, targets, cells in (
            ("tree", (), 198), ("tree", (), 199), ("list", (), 199), ("part", (0,), 199), ("way", (0, 0), 199),
        ):
            with self.assertRaises(Full):
                openings(BOOK, self.with_cells(word, targets, cells), 1)

    def test_cells_and_small_rules_are_never_full(self):
        web = self.with_cells("list", (), 199)
        self.assertEqual(openings(BOOK, web, 2), [web])
        book = Book([("leaf", 1, [("-", "-", ()), ("a", "a", ())])])
        told = openings(book, self.with_cells("leaf", (), 199), 1)
        self.assertEqual([len(web) for web in told], [200, 200])

    def test_bad_item(self):
        for text, point, place in (
            ("x=1 1:tree()", 1, 0),
            ("x=1 1:list(-)", 1, 0),
            ("x=1 1:part()", 1, 0),
            ("x=1 1:part(-,-)", 1, 0),
            ("x=1 1:cell(2,3) 2:list() 3:ring()", 1, 2),
            ("x=1 1:cell(2,3) 2:list() 3:ring()", 2, 2),
            ("x=1 1:cell(2,3) 2:tree() 3:ring()", 1, 1),
        ):
            with self.assertRaises(BadItem) as caught:
                openings(Book([LIST, PART]), read_web(text), point)
            self.assertEqual(caught.exception.place, place)

    def test_bad_item_goes_ahead_of_full(self):
        web = self.with_cells("list", (), 199)
        items = web.item_rows()
        items[-1] = ("tree", ())
        with self.assertRaises(BadItem) as caught:
            openings(Book([LIST]), Web(web.name_rows(), items), 1)
        self.assertEqual(caught.exception.place, 199)


if __name__ == "__main__":
    unittest.main()
