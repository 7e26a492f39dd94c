"""Points 9 and 11: webs grown by choices."""

import random
import unittest

from osier.books import Book
from osier.errors import BadItem, Full
from osier.growing import grown, openings
from osier.webs import Web, read_web
from samples import BOOK, EIGHT_NAMES, LIST, NONE, PART, TREE, chain, doubling_book, some_book, some_web

# The first rule is no end: without choices another one is taken.
TURNED = Book([("list", 1, [LIST[2][1], LIST[2][0]]), ("tree", 1, TREE[2][::-1])])


def grown_plainly(book, web, choices):
    """What point 11 tells, by the openings of point 10."""
    left = list(choices)
    while not web.is_heap():
        point = [word == "cell" for word, _ in web.item_rows()].index(False) + 1
        word = web.item_rows()[point - 1][0]
        rules = book.rules(word)
        if left:
            number = left.pop(0) % len(rules)
        else:
            low = [max([book.height(name) for name, _ in inner], default=0) for _, _, inner in rules]
            number = [height < book.height(word) for height in low].index(True)
        web = openings(book, web, point)[number]
    return web


class Told(unittest.TestCase):
    def grows(self, text, choices, told, book=BOOK):
        web = read_web(text)
        self.assertEqual(repr(grown(book, web, choices)), told)
        self.assertEqual(repr(web), text)

    def test_none(self):
        self.grows("x=1 1:list()", (), "x=1 1:cell(-,-)")
        self.assertEqual(grown(BOOK, read_web("x=1 1:list()")), chain(1))
        self.grows("x=1 1:part(2) 2:tree()", [], "x=1 1:cell(-,2) 2:cell(-,-)")
        self.grows("empty", (), "empty")
        self.grows("empty", (), "empty", NONE)
        self.grows("x=- y=*", [1, 2, 3], "x=- y=*", NONE)

    def test_few_and_many(self):
        self.grows("x=1 1:list()", [1], "x=1 1:cell(-,2) 2:cell(-,-)")
        self.grows("x=1 1:list()", [1, 0], "x=1 1:cell(-,2) 2:cell(-,-)")
        self.grows("x=1 1:list()", (1, 1, 0, 1, 1), "x=1 1:cell(-,2) 2:cell(-,3) 3:cell(-,-)")
        self.assertEqual(grown(BOOK, read_web("x=1 1:list()"), [1] * 30), chain(31))
        self.assertEqual(grown(BOOK, read_web("x=1 1:part(*)"), [1] * 29), chain(30, -1))
        self.assertEqual(grown(BOOK, read_web("x=1 1:ring()"), [1] * 4), chain(5, 1))

    def test_the_choice_is_taken_at_the_first_point(self):
        self.grows(
            "x=1 y=2 1:list() 2:tree()", [0, 3],
            "x=1 y=2 1:cell(-,-) 2:cell(3,4) 3:cell(-,-) 4:cell(-,-)",
        )
        # The new points are behind the named ones.
        self.grows(
            "x=1 y=2 1:tree() 2:tree()", [1, 2, 3],
            "x=1 y=2 1:cell(3,-) 2:cell(-,4) 3:cell(5,6) 4:cell(-,-) 5:cell(-,-) 6:cell(-,-)",
        )

    def test_of_any_size_and_below_nought(self):
        for choice in (3, 7, 4 * 10 ** 30 + 3, -1, -5, -(4 * 10 ** 30) - 1):
            self.grows("x=1 1:tree()", [choice], "x=1 1:cell(2,3) 2:cell(-,-) 3:cell(-,-)")
        for choice in (2, 6, -2, -6):
            self.grows("x=1 1:tree()", [choice], "x=1 1:cell(-,2) 2:cell(-,-)")
        for choice in (0, 4, -4, 4 * 10 ** 30):
            self.grows("x=1 1:tree()", [choice], "x=1 1:cell(-,-)")

    def test_where_no_choice_is_left(self):
        self.grows("x=1 1:list()", (), "x=1 1:cell(-,-)", TURNED)
        self.grows("x=1 1:list()", [0, 0], "x=1 1:cell(-,2) 2:cell(-,3) 3:cell(-,-)", TURNED)
        self.grows("x=1 1:tree()", [0], "x=1 1:cell(2,3) 2:cell(-,-) 3:cell(-,-)", TURNED)
        book = Book([
            ("top", 1, [
                ("-", "p", (("top", ("p",)),)), ("-", "p", (("mid", ("p",)),)), ("p", "-", (("low", ("p",)),)),
            ]),
            ("mid", 1, [("-", "p", (("low", ("p",)),))]),
            ("low", 1, [("a", "a", ()), ("-", "-", ())]),
        ])
        self.assertEqual([book.height(name) for name in ("top", "mid", "low")], [2, 2, 1])
        self.grows("x=1 1:top()", (), "x=1 1:cell(2,-) 2:cell(2,2)", book)
        self.grows("x=1 1:top()", [1], "x=1 1:cell(-,2) 2:cell(-,3) 3:cell(3,3)", book)

    def test_the_choices_handed_in_stay(self):
        choices = [1, 1, 0, 9]
        grown(BOOK, read_web("x=1 1:list()"), choices)
        self.assertEqual(choices, [1, 1, 0, 9])

    def test_webs_by_chance(self):
        chance = random.Random(11)
        heaps = 0
        for turn in range(300):
            book = BOOK if turn < 60 else some_book(chance)
            web = some_web(chance, book, chance.randint(0, 5))
            choices = [chance.randint(-9, 99) for _ in range(chance.randint(0, 20))]
            before = (repr(web), book.shape_rows(), list(choices))
            try:
                heap = grown(book, web, choices)
            except Full:
                continue
            heaps += 1
            self.assertTrue(heap.is_heap())
            self.assertEqual(heap, grown_plainly(book, web, choices))
            self.assertEqual(heap, grown(book, web, tuple(choices)))
            self.assertEqual((repr(web), book.shape_rows(), choices), before)
        self.assertGreater(heaps, 250)


class Refused(unittest.TestCase):
    def rounds(self, words):
        """One name for each shape of the doubling book."""
        names = [(name, number) for number, name in enumerate("abcdef"[:len(words)], start=1)]
        return Web(names, [(word, ()) for word in words])

    def test_rounds_up_to_two_hundred_cells(self):
        book = doubling_book()
        self.assertEqual([book.height(name) for name in EIGHT_NAMES], [1, 2, 3, 4, 5, 6, 7, 8])
        # 127 + 63 + 7 + 1 + 1, and one more each.
        self.assertEqual(len(grown(book, self.rounds(["hg", "hf", "hc", "ha", "ha"]))), 199)
        self.assertEqual(len(grown(book, self.rounds(["hg", "hf", "hc", "hb"]))), 200)
        with self.assertRaises(Full):
            grown(book, self.rounds(["hg", "hf", "hc", "hb", "ha"]))
        with self.assertRaises(Full):
            grown(book, self.rounds(["hh"]))
        self.assertEqual(len(grown(book, self.rounds(["hg"]), [5, 7, 9])), 127)

    def lists_with_cells(self, cells, word):
        heap = chain(cells).item_rows()
        items = [("cell", tuple(target + 1 if target else 0 for target in fields)) for _, fields in heap]
        return Web([("a", 1), ("x", 2)], [(word, ())] + items)

    def test_choices_up_to_two_hundred_cells(self):
        web = self.lists_with_cells(170, "list")
        self.assertEqual(len(grown(BOOK, web, [1] * 28)), 199)
        self.assertEqual(len(grown(BOOK, web, [1] * 29)), 200)
        with self.assertRaises(Full):
            grown(BOOK, web, [1] * 30)

    def test_at_two_hundred_already(self):
        web = self.lists_with_cells(199, "tree")
        self.assertEqual(len(grown(BOOK, web)), 200)
        self.assertEqual(len(grown(BOOK, web, [0, 3])), 200)
        for choice in (1, 2, 3):
            with self.assertRaises(Full):
                grown(BOOK, web, [choice])
        self.assertEqual(grown(BOOK, chain(200), [1]), chain(200))

    def test_bad_item(self):
        book = Book([LIST, PART])
        for text, place in (
            ("x=1 1:tree()", 0), ("x=1 1:cell(2,3) 2:list() 3:list(-)", 2), ("x=1 1:part(2) 2:part(-,-)", 1),
        ):
            for choices in ((), [1, 1]):
                with self.assertRaises(BadItem) as caught:
                    grown(book, read_web(text), choices)
                self.assertEqual(caught.exception.place, place)

    def test_bad_item_goes_ahead_of_full(self):
        items = self.lists_with_cells(199, "list").item_rows()
        items[-1] = ("tree", ())
        with self.assertRaises(BadItem) as caught:
            grown(Book([LIST]), Web([("a", 1), ("x", 2)], items), [1])
        self.assertEqual(caught.exception.place, 199)


if __name__ == "__main__":
    unittest.main()
