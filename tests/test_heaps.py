"""Points 9, 11 and 12: the heaps of a web, and whether a heap is one."""

import itertools
import random
import unittest

from osier.books import Book
from osier.errors import BadItem, Full
from osier.growing import grown, heaps_of, holds
from osier.webs import Web, read_web
from samples import (
    BOOK, EIGHT_NAMES, FORK, LIST, LISTS, NONE, PART, RING, TWIN, chain, changed_by_chance, full_tree, pruned,
    shown, some_book, some_web,
)


class HeapsOf(unittest.TestCase):
    def has(self, text, cells, *told, book=BOOK):
        web = read_web(text)
        self.assertEqual(shown(heaps_of(book, web, cells=cells)), list(told))
        self.assertEqual(repr(web), text)

    def test_lists(self):
        self.has("x=1 1:list()", 0)
        for cells in range(1, 6):
            self.has("x=1 1:list()", cells, *[repr(chain(many)) for many in range(1, cells + 1)])
            self.has("x=1 1:part(*)", cells, *[repr(chain(many, -1)) for many in range(1, cells + 1)])
            self.has("x=1 1:ring()", cells, *[repr(chain(many, 1)) for many in range(1, cells + 1)])

    def test_heaps_and_webs_of_no_points(self):
        for cells in range(6):
            self.has("empty", cells, "empty")
            self.has("x=- y=*", cells, "x=- y=*", book=NONE)
        self.has("x=1 1:cell(-,2) 2:cell(1,*)", 1)
        for cells in range(2, 6):
            self.has("x=1 1:cell(-,2) 2:cell(1,*)", cells, "x=1 1:cell(-,2) 2:cell(1,*)")

    def test_fewer_cells_first_then_by_texts(self):
        self.has("x=1 1:tree()", 2, "x=1 1:cell(-,-)", "x=1 1:cell(-,2) 2:cell(-,-)", "x=1 1:cell(2,-) 2:cell(-,-)")
        self.has(
            "x=1 y=2 1:list() 2:list()", 3,
            "x=1 y=2 1:cell(-,-) 2:cell(-,-)",
            "x=1 y=2 1:cell(-,-) 2:cell(-,3) 3:cell(-,-)",
            "x=1 y=2 1:cell(-,3) 2:cell(-,-) 3:cell(-,-)",
        )

    def test_how_many_trees(self):
        heaps = heaps_of(BOOK, read_web("x=1 1:tree()"), cells=5)
        self.assertEqual([[len(heap) for heap in heaps].count(many) for many in range(6)], [0, 1, 2, 5, 14, 42])
        self.assertEqual(heaps, sorted(heaps, key=lambda heap: (len(heap), repr(heap))))

    def test_each_heap_once(self):
        # By many ways, and by rules that stand twice.
        twice = Book([("list", 1, LIST[2] + LIST[2] + [("-", "p", (("more", ("p",)),))]), ("more", 1, [
            ("-", "-", ()), ("-", "p", (("list", ("p",)),)), ("-", "p", (("more", ("p",)),)),
        ])])
        for word in ("list", "more"):
            self.has(f"x=1 1:{word}()", 5, *[repr(chain(many)) for many in range(1, 6)], book=twice)
        self.has("x=1 1:part(2) 2:list()", 4, *[repr(chain(many)) for many in range(2, 5)])

    def test_heaps_by_choices_are_among_them(self):
        chance = random.Random(12)
        seen = 0
        for turn in range(150):
            book = BOOK if turn < 40 else some_book(chance)
            web = some_web(chance, book, chance.randint(0, 4))
            cells = chance.randint(0, 5)
            before = repr(web)
            heaps = heaps_of(book, web, cells=cells)
            self.assertEqual(repr(web), before)
            texts = shown(heaps)
            self.assertEqual(len(set(texts)), len(texts))
            self.assertTrue(all(heap.is_heap() and len(heap) <= cells for heap in heaps))
            self.assertEqual(heaps, sorted(heaps, key=lambda heap: (len(heap), repr(heap))))
            for _ in range(10):
                try:
                    heap = grown(book, web, [chance.randint(0, 59) for _ in range(chance.randint(0, 8))])
                except Full:
                    continue
                self.assertEqual(repr(heap) in texts, len(heap) <= cells)
                seen += len(heap) <= cells
        self.assertGreater(seen, 300)

    def test_just_what_comes_by_some_choices(self):
        for text in ("x=1 1:tree()", "x=1 y=2 1:part(2) 2:back(-)", "x=1 1:way(-,2) 2:ring()", "x=1 1:way(1,1)"):
            web = read_web(text)
            come = set()
            for choices in itertools.product(range(4), repeat=5):
                heap = grown(BOOK, web, choices)
                if len(heap) <= 4:
                    come.add(repr(heap))
            self.assertEqual(set(shown(heaps_of(BOOK, web, cells=4))), come)

    def test_a_told_list_is_the_askers_own(self):
        web = read_web("x=1 1:list()")
        told = heaps_of(BOOK, web, cells=3)
        self.assertIs(type(told), list)
        told.clear()
        self.assertEqual(heaps_of(BOOK, web, cells=3), [chain(1), chain(2), chain(3)])

    def test_bad_item(self):
        for cells in (0, 3):
            with self.assertRaises(BadItem) as caught:
                heaps_of(LISTS, read_web("x=1 1:cell(2,3) 2:list() 3:tree()"), cells=cells)
            self.assertEqual(caught.exception.place, 2)


class Holds(unittest.TestCase):
    def hold(self, book, text, heap):
        web = read_web(text)
        heap = read_web(heap) if isinstance(heap, str) else heap
        before = repr(heap)
        told = holds(book, web, heap)
        self.assertEqual((repr(web), repr(heap)), (text, before))
        self.assertIs(type(told), bool)
        return told

    def test_lists(self):
        for cells in range(1, 41):
            self.assertTrue(self.hold(BOOK, "x=1 1:list()", chain(cells)))
            self.assertFalse(self.hold(BOOK, "x=1 1:list()", chain(cells, -1)))
            self.assertFalse(self.hold(BOOK, "x=1 1:list()", chain(cells, 1)))
            self.assertFalse(self.hold(BOOK, "x=1 1:list()", chain(cells, cells)))
            self.assertTrue(self.hold(BOOK, "x=1 1:part(*)", chain(cells, -1)))
            self.assertFalse(self.hold(BOOK, "x=1 1:part(-)", chain(cells, -1)))
            self.assertTrue(self.hold(BOOK, "x=1 1:ring()", chain(cells, 1)))
            self.assertTrue(self.hold(BOOK, "x=1 1:part(1)", chain(cells, 1)))
            self.assertEqual(self.hold(BOOK, "x=1 1:ring()", chain(cells, cells)), cells == 1)

    def test_names_and_their_targets(self):
        self.assertTrue(self.hold(BOOK, "x=1 1:list()", "x=1 1:cell(-,-)"))
        for other in (
            "y=1 1:cell(-,-)", "x=1 y=- 1:cell(-,-)", "x=1 y=1 1:cell(-,-)", "x=-", "x=*", "empty",
            "x=1 1:cell(1,-)", "x=1 1:cell(*,-)", "x=1 1:cell(-,*)", "x=1 1:cell(2,-) 2:cell(-,-)",
        ):
            self.assertFalse(self.hold(BOOK, "x=1 1:list()", other), other)
        self.assertTrue(self.hold(BOOK, "x=- y=*", "x=- y=*"))
        self.assertFalse(self.hold(BOOK, "x=- y=*", "x=* y=-"))
        self.assertFalse(self.hold(BOOK, "x=- y=*", "x=- y=-"))
        self.assertTrue(self.hold(NONE, "empty", "empty"))
        two = "x=1 y=2 1:cell(-,2) 2:cell(-,-)"
        self.assertTrue(self.hold(BOOK, "x=1 y=2 1:part(2) 2:list()", two))
        self.assertFalse(self.hold(BOOK, "x=1 y=1 1:list()", two))
        self.assertFalse(self.hold(BOOK, "x=1 y=2 1:part(2) 2:list()", "x=1 y=1 1:cell(-,2) 2:cell(-,-)"))
        self.assertFalse(self.hold(BOOK, "x=1 y=2 1:list() 2:list()", two))

    def test_a_web_that_is_no_heap_holds_to_none(self):
        self.assertFalse(self.hold(BOOK, "x=1 1:list()", "x=1 1:list()"))
        self.assertFalse(self.hold(BOOK, "x=1 1:list()", "x=1 1:cell(-,2) 2:list()"))
        self.assertFalse(self.hold(BOOK, "x=1 1:list()", "x=1 1:part(-)"))
        self.assertTrue(self.hold(BOOK, "x=1 1:cell(-,-)", "x=1 1:cell(-,-)"))

    def test_points_whose_places_have_to_be_found(self):
        for cells in (3, 17, 40):
            self.assertTrue(self.hold(BOOK, "x=1 1:part(2) 2:part(3) 3:list()", chain(cells)))
        self.assertFalse(self.hold(BOOK, "x=1 1:part(2) 2:part(3) 3:list()", chain(2)))
        many = " ".join(f"{point}:part({point + 1})" for point in range(1, 20))
        self.assertTrue(self.hold(BOOK, f"x=1 {many} 20:list()", chain(40)))
        self.assertTrue(self.hold(BOOK, f"x=1 {many} 20:list()", chain(20)))
        self.assertFalse(self.hold(BOOK, f"x=1 {many} 20:list()", chain(19)))
        self.assertFalse(self.hold(BOOK, f"x=1 {many} 20:list()", chain(40, 30)))
        self.assertTrue(self.hold(BOOK, "x=1 1:part(2) 2:ring()", chain(40, 30)))
        self.assertFalse(self.hold(BOOK, "x=1 1:part(2) 2:ring()", chain(40, 1)))

    def test_a_place_that_is_asked_for_again(self):
        # The last cell's left field tells where the second point is, behind both stretches.
        for cells in (3, 5, 9, 40):
            for back in range(-1, cells + 1):
                items = chain(cells).item_rows()
                items[-1] = ("cell", (back, 0))
                told = self.hold(BOOK, "x=1 1:part(2) 2:part(3) 3:cell(2,-)", Web([("x", 1)], items))
                self.assertEqual(told, 1 < back < cells, (cells, back))

    def test_a_shape_that_two_ways_take(self):
        # Both middle shapes have a leaf at the same cell; one of them fails by its other inner shape.
        leaf = ("leaf", 1, [("-", "-", ())])
        loop = ("loop", 1, [("a", "a", ())])
        good = ("good", 1, [("q", "p", (("leaf", ("q",)), ("leaf", ("p",))))])
        bad = ("bad", 1, [("q", "p", (("loop", ("q",)), ("leaf", ("p",))))])
        ways = [("-", "p", (("good", ("p",)),)), ("-", "p", (("bad", ("p",)),))]
        heap = "x=1 1:cell(-,2) 2:cell(3,4) 3:cell(-,-) 4:cell(-,-)"
        for rules in (ways, ways[::-1]):
            for inner in ([leaf, loop, good, bad], [bad, good, loop, leaf]):
                book = Book([("top", 1, rules)] + inner)
                self.assertTrue(self.hold(book, "x=1 1:top()", heap))
                self.assertFalse(self.hold(book, "x=1 1:top()", heap.replace("4:cell(-,-)", "4:cell(4,4)")))
                self.assertTrue(self.hold(book, "x=1 1:top()", heap.replace("3:cell(-,-)", "3:cell(3,3)")))

    def test_no_cell_is_in_two_shapes(self):
        two = "x=1 y=2 1:list() 2:list()"
        self.assertTrue(self.hold(BOOK, two, "x=1 y=2 1:cell(-,3) 2:cell(-,-) 3:cell(-,-)"))
        self.assertFalse(self.hold(BOOK, two, "x=1 y=2 1:cell(-,3) 2:cell(-,3) 3:cell(-,-)"))
        joint = "x=1 y=2 1:part(3) 2:part(3) 3:list()"
        self.assertTrue(self.hold(BOOK, joint, "x=1 y=2 1:cell(-,3) 2:cell(-,3) 3:cell(-,-)"))
        self.assertFalse(self.hold(BOOK, "x=1 1:tree()", "x=1 1:cell(2,2) 2:cell(-,-)"))
        self.assertFalse(self.hold(BOOK, "x=1 1:tree()", "x=1 1:cell(2,3) 2:cell(4,-) 3:cell(-,4) 4:cell(-,-)"))
        fork = Book([FORK, LIST])
        joint = "x=1 1:fork(2) 2:list()"
        self.assertTrue(self.hold(fork, joint, "x=1 1:cell(2,3) 2:cell(4,4) 3:cell(4,4) 4:cell(-,-)"))
        self.assertFalse(self.hold(fork, joint, "x=1 1:cell(2,3) 2:cell(4,4) 3:cell(4,-) 4:cell(-,-)"))

    def test_lists_with_ways_back(self):
        items = [("cell", (number - 1, number + 1)) for number in range(1, 40)] + [("cell", (39, 0))]
        self.assertTrue(self.hold(BOOK, "x=1 1:back(-)", Web([("x", 1)], items)))
        self.assertTrue(self.hold(BOOK, "x=1 1:way(-,-)", Web([("x", 1)], items)))
        for at, fields in ((0, (1, 2)), (20, (19, 22)), (20, (21, 22)), (20, (0, 22)), (39, (39, 1)), (39, (38, 0))):
            wrong = list(items)
            wrong[at] = ("cell", fields)
            self.assertFalse(self.hold(BOOK, "x=1 1:back(-)", Web([("x", 1)], wrong)), (at, fields))

    def test_trees_of_forty_cells(self):
        for cells in (1, 2, 7, 31, 40):
            self.assertTrue(self.hold(BOOK, "x=1 1:tree()", full_tree(cells)))
        items = full_tree(40).item_rows()
        for at, fields in ((3, (8, 10)), (30, (1, 0)), (39, (0, -1)), (39, (40, 0)), (19, (40, 40)), (39, (39, 0))):
            wrong = list(items)
            wrong[at] = ("cell", fields)
            self.assertFalse(self.hold(BOOK, "x=1 1:tree()", pruned([("x", 1)], wrong)), (at, fields))

    def test_many_rules_that_could_be(self):
        # Each cell can come by several rules of several shapes; what is told must not take ages.
        shapes = []
        for at, name in enumerate(EIGHT_NAMES):
            one, two = EIGHT_NAMES[(at + 1) % 8], EIGHT_NAMES[(at + 3) % 8]
            shapes.append((name, 1, [
                ("p", "q", ((one, ("p",)), (two, ("q",)))), ("p", "q", ((two, ("p",)), (one, ("q",)))),
                ("p", "-", ((one, ("p",)),)), ("-", "p", ((two, ("p",)),)), ("-", "p", ((one, ("p",)),)),
                ("-", "-", ()),
            ]))
        book = Book(shapes)
        self.assertTrue(self.hold(book, "x=1 1:ha()", full_tree(40)))
        self.assertTrue(self.hold(book, "x=1 1:ha()", chain(40)))
        self.assertFalse(self.hold(book, "x=1 1:ha()", chain(40, -1)))
        left = [("cell", (2 * k, 2 * k + 1)) for k in range(1, 20)] + [("cell", (0, 0))] * 20
        comb = [("cell", (3 + 2 * k if k < 18 else 0, 2 + 2 * k)) if at == 0 else ("cell", (0, 0))
                for k in range(19) for at in range(2)]
        self.assertEqual((len(left), len(comb)), (39, 38))
        self.assertTrue(self.hold(book, "x=1 1:ha()", Web([("x", 1)], left)))
        self.assertTrue(self.hold(book, "x=1 1:ha()", Web([("x", 1)], comb)))
        turned = [(word, fields[::-1]) for word, fields in comb]
        self.assertTrue(self.hold(book, "x=1 1:ha()", Web([("x", 1)], turned)))

    def test_more_rules_and_another_order(self):
        chance = random.Random(121)
        for _ in range(60):
            book = some_book(chance)
            web = some_web(chance, book, chance.randint(1, 3))
            shapes = book.shape_rows()
            turned = Book([(name, points, rules[::-1]) for name, points, rules in shapes])
            more = Book([(name, points, rules + rules[:1]) if len(rules) < 6 else (name, points, rules)
                         for name, points, rules in shapes])
            for heap in heaps_of(book, web, cells=4)[:12]:
                for other in (heap, changed_by_chance(chance, heap)):
                    if other is not None:
                        told = holds(book, web, other)
                        self.assertEqual(holds(turned, web, other), told)
                        self.assertEqual(holds(more, web, other), told)
        both = Book([("list", 1, LIST[2] + [("p", "-", (("list", ("p",)),))])])
        mixed = "x=1 1:cell(-,2) 2:cell(3,-) 3:cell(-,-)"
        self.assertTrue(self.hold(both, "x=1 1:list()", mixed))
        self.assertFalse(self.hold(LISTS, "x=1 1:list()", mixed))

    def test_just_the_heaps(self):
        chance = random.Random(122)
        counts = [0, 0]
        books = (BOOK, Book([TWIN, PART, FORK, LIST]), Book([RING, PART]))
        for turn in range(150):
            book = books[turn % 3] if turn < 60 else some_book(chance)
            web = some_web(chance, book, chance.randint(0, 4))
            heaps = heaps_of(book, web, cells=4)
            texts = set(shown(heaps))
            others = [changed_by_chance(chance, heap) for heap in heaps[:10] for _ in range(3)]
            for heap in heaps[:10] + [other for other in others if other is not None]:
                told = holds(book, web, heap)
                self.assertEqual(told, repr(heap) in texts, (book.shape_rows(), web, heap))
                counts[told] += 1
        self.assertGreater(min(counts), 300)

    def test_grown_heaps_hold(self):
        chance = random.Random(123)
        seen = 0
        while seen < 150:
            book = BOOK if seen < 50 else some_book(chance)
            web = some_web(chance, book, chance.randint(1, 10), 6)
            try:
                heap = grown(book, web, [chance.randint(0, 59) for _ in range(chance.randint(0, 30))])
            except Full:
                continue
            if len(heap) <= 40:
                seen += 1
                self.assertTrue(holds(book, web, heap), (book.shape_rows(), web, heap))

    def test_bad_item(self):
        tree, ring = read_web("x=1 1:cell(-,2) 2:tree()"), read_web("x=1 1:ring()")
        good = read_web("x=1 1:list()")
        for web, heap, place in ((tree, ring, 1), (ring, tree, 0), (good, tree, 1), (good, ring, 0), (ring, good, 0)):
            with self.assertRaises(BadItem) as caught:
                holds(LISTS, web, heap)
            self.assertEqual(caught.exception.place, place)
        with self.assertRaises(BadItem) as caught:
            holds(NONE, chain(1), good)
        self.assertEqual(caught.exception.place, 0)
        self.assertTrue(holds(NONE, chain(1), chain(1)))


if __name__ == "__main__":
    unittest.main()
