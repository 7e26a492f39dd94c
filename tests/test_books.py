"""Points 1, 5 to 8, 30 and 9: books told and alike, leads_into, need_items."""

import unittest

from osier.books import Book, need_items
from osier.errors import BadItem, NoShape
from osier.webs import Web
from samples import LIST, PART, RING, SHAPES, TREE


class Told(unittest.TestCase):
    def test_shape_rows(self):
        self.assertEqual(Book(SHAPES).shape_rows(), SHAPES)
        self.assertEqual(Book([PART, RING]).shape_rows(), [PART, RING])
        self.assertEqual(Book([RING, PART]).shape_rows(), [RING, PART])
        self.assertEqual(Book([]).shape_rows(), [])

    def test_rules(self):
        book = Book(SHAPES)
        for name, _, rules in SHAPES:
            self.assertEqual(book.rules(name), rules)

    def test_len_and_repr(self):
        self.assertEqual(len(Book([])), 0)
        self.assertEqual(repr(Book([])), "Book()")
        self.assertEqual(len(Book([LIST])), 1)
        self.assertEqual(repr(Book([LIST])), "Book(list)")
        self.assertEqual(repr(Book([LIST, TREE])), "Book(list, tree)")
        self.assertEqual(repr(Book([TREE, LIST])), "Book(tree, list)")
        self.assertEqual(str(Book([TREE, LIST])), "Book(tree, list)")
        self.assertEqual(len(Book(SHAPES)), 6)

    def test_eight_shapes_and_six_rules(self):
        names = ("aa", "bb", "cc", "dd", "ee", "ff", "gg", "abcdefgh")
        rules = [("-", "-", ()), ("a", "-", ()), ("-", "a", ()), ("a", "a", ()), ("-", "-", ()), ("-", "a", ())]
        book = Book([(name, 1, rules) for name in names])
        self.assertEqual(len(book), 8)
        self.assertEqual(book.rules("abcdefgh"), rules)
        self.assertEqual([name for name, _, _ in book.shape_rows()], list(names))

    def test_heights(self):
        book = Book(SHAPES)
        self.assertEqual([book.height(name) for name, _, _ in SHAPES], [1] * 6)

    def test_heights_over_one(self):
        book = Book([
            ("top", 1, [("p", "q", (("mid", ("p",)), ("low", ("q",)))), ("-", "p", (("top", ("p",)),))]),
            ("mid", 1, [("-", "p", (("low", ("p",)),))]),
            ("low", 1, [("-", "p", (("low", ("p",)),)), ("-", "-", ())]),
            ("alt", 1, [("-", "p", (("top", ("p",)),)), ("-", "p", (("mid", ("p",)),))]),
            ("far", 1, [("p", "q", (("low", ("p",)), ("top", ("q",))))]),
        ])
        told = [(name, book.height(name)) for name in ("top", "mid", "low", "alt", "far")]
        self.assertEqual(told, [("top", 3), ("mid", 2), ("low", 1), ("alt", 3), ("far", 4)])

    def test_heights_do_not_hang_on_the_order(self):
        low = ("low", 1, [("-", "-", ())])
        mid = ("mid", 1, [("-", "p", (("low", ("p",)),))])
        top = ("top", 1, [("-", "p", (("mid", ("p",)),))])
        for shapes in ([low, mid, top], [top, mid, low], [mid, top, low]):
            book = Book(shapes)
            self.assertEqual([book.height(name) for name in ("low", "mid", "top")], [1, 2, 3])

    def test_no_such_shape(self):
        book = Book([LIST, PART])
        for name in ("tree", "cell", "", "List", "lis"):
            for asked in (book.rules, book.height, Book([]).rules, Book([]).height):
                with self.assertRaises(NoShape) as caught:
                    asked(name)
                self.assertEqual(caught.exception.name, name)


class Kept(unittest.TestCase):
    def test_lists_handed_in_are_changed_behind_the_call(self):
        rules = [("-", "-", ()), ("-", "p", (("list", ("p",)),))]
        shapes = [("list", 1, rules)]
        book = Book(shapes)
        rules.append(("a", "a", ()))
        shapes.append(TREE)
        self.assertEqual(book.shape_rows(), [LIST])
        self.assertEqual(book.rules("list"), LIST[2])
        self.assertEqual((len(book), repr(book)), (1, "Book(list)"))
        with self.assertRaises(NoShape):
            book.rules("tree")

    def test_what_is_handed_in_stays(self):
        rules = [("-", "-", ()), ("-", "p", (("list", ("p",)),))]
        shapes = [("list", 1, rules)]
        Book(shapes)
        self.assertEqual(shapes, [LIST])
        self.assertEqual(rules, LIST[2])

    def test_told_lists_are_the_askers_own(self):
        book = Book([LIST, PART])
        book.shape_rows().clear()
        book.shape_rows()[0][2].clear()
        book.rules("list").append(("a", "a", ()))
        self.assertEqual(book.shape_rows(), [LIST, PART])
        self.assertEqual(book.rules("list"), LIST[2])
        self.assertIs(book.leads_into("part", "list"), True)

    def test_kinds_that_are_told(self):
        book = Book(SHAPES)
        self.assertIs(type(book.shape_rows()), list)
        for name, row in zip([name for name, _, _ in SHAPES], book.shape_rows()):
            self.assertIs(type(row), tuple)
            self.assertIs(type(row[2]), list)
            self.assertIs(type(book.rules(name)), list)
            for rule in row[2] + book.rules(name):
                self.assertIs(type(rule), tuple)
                self.assertIs(type(rule[2]), tuple)
                for inner in rule[2]:
                    self.assertIs(type(inner), tuple)
                    self.assertIs(type(inner[1]), tuple)


class Alike(unittest.TestCase):
    def unlike(self, one, other):
        self.assertIs(one == other, False)
        self.assertIs(other == one, False)
        self.assertIs(one != other, True)
        self.assertIs(other != one, True)

    def test_alike(self):
        for shapes in ([], [LIST], [LIST, PART], SHAPES):
            self.assertIs(Book(shapes) == Book(list(shapes)), True)
            self.assertIs(Book(shapes) != Book(list(shapes)), False)
            self.assertIs(Book(Book(shapes).shape_rows()) == Book(shapes), True)

    def test_unlike_books(self):
        book = Book([LIST, PART])
        self.unlike(book, Book([PART, LIST]))
        self.unlike(book, Book([LIST]))
        self.unlike(book, Book([]))
        self.unlike(book, Book([LIST, ("part", 2, PART[2][:1])]))
        self.unlike(book, Book([LIST, ("part", 2, PART[2][::-1])]))
        self.unlike(book, Book([LIST, ("part", 2, [("a", "b", ()), PART[2][1]])]))
        self.unlike(book, Book([LIST, ("part", 2, [PART[2][0], ("-", "p", (("part", ("p", "b")),)), ("b", "-", ())])]))
        self.unlike(book, Book([LIST, ("rest", 2, [("-", "b", ()), ("-", "p", (("rest", ("p", "b")),))])]))
        one = Book([("pair", 1, [("a", "a", ())])])
        self.unlike(one, Book([("pairs", 1, [("a", "a", ())])]))
        self.unlike(Book([("pair", 2, [("a", "b", ())])]), Book([("pair", 1, [("a", "-", ())])]))

    def test_no_book(self):
        class LookAlike:
            shapes = Book([LIST]).shapes

        for other in (None, 0, 1, [LIST], (LIST,), "Book(list)", [], "Book()", Web(), object(), LookAlike()):
            self.unlike(Book([LIST]), other)
            self.unlike(Book([]), other)


class LeadsInto(unittest.TestCase):
    def leads(self, one, other, shapes):
        return Book(shapes).leads_into(one, other)

    def test_a_stretch_into_a_list_and_into_itself(self):
        book = Book(SHAPES)
        self.assertIs(book.leads_into("part", "list"), True)
        self.assertIs(book.leads_into("part", "part"), True)
        self.assertIs(book.leads_into("part", "tree"), True)
        leading = {
            (one, other)
            for one, _, _ in SHAPES
            for other, _, _ in SHAPES
            if book.leads_into(one, other)
        }
        self.assertEqual(leading, {("part", "list"), ("part", "part"), ("part", "tree")})

    def test_a_stretch_of_two_ways(self):
        # The left or the right field goes on, and the other one leads to nothing or to the cell itself.
        steps = [("b", "-", ()), ("a", "b", ())]
        again = [("p", "-", (("path", ("p", "b")),)), ("a", "p", (("path", ("p", "b")),))]
        path = ("path", 2, steps + again)
        goal = ("goal", 1, [("p", "-", (("goal", ("p",)),)), ("-", "-", ()), ("a", "p", (("goal", ("p",)),))])
        self.assertTrue(self.leads("path", "path", [path, goal]))
        self.assertTrue(self.leads("path", "goal", [path, goal]))
        less = ("goal", 1, [("p", "-", (("goal", ("p",)),)), ("-", "-", ())])
        self.assertFalse(self.leads("path", "goal", [path, less]))
        self.assertFalse(self.leads("path", "goal", [path, ("goal", 1, goal[2][1:])]))

    def test_into_shapes_of_two_and_three_points(self):
        two = ("two", 2, [("b", "-", ()), ("-", "p", (("two", ("p", "b")),))])
        three = ("three", 3, [("b", "c", ()), ("-", "p", (("three", ("p", "b", "c")),))])
        self.assertTrue(self.leads("part", "two", [PART, two]))
        self.assertTrue(self.leads("part", "three", [PART, three]))
        odd = ("two", 2, [("b", "-", ()), ("b", "p", (("two", ("p", "a")),)), ("b", "p", (("two", ("p", "b")),))])
        self.assertFalse(self.leads("part", "two", [PART, odd]))
        turned = ("three", 3, [("b", "c", ()), ("-", "p", (("three", ("p", "c", "b")),))])
        self.assertFalse(self.leads("part", "three", [PART, turned]))

    def test_the_first_has_two_points(self):
        self.assertFalse(self.leads("list", "list", [LIST]))
        three = ("three", 3, [("c", "b", ()), ("-", "p", (("three", ("p", "b", "c")),))])
        self.assertFalse(self.leads("three", "three", [three]))
        self.assertFalse(self.leads("three", "list", [three, LIST]))
        fork = ("fork", 3, [("b", "c", ())])
        forks = ("forks", 3, [("b", "c", ()), ("p", "c", (("forks", ("p", "b", "c")),))])
        self.assertFalse(self.leads("fork", "forks", [fork, forks]))

    def test_each_rule_is_a_step(self):
        again = ("-", "p", (("odd", ("p", "b")),))
        step = ("-", "b", ())
        into = [("list", 1, [("-", "-", ())] + [
            (left, right, (("list", ("p",)),)) for left, right in (("-", "p"), ("p", "p"), ("a", "p"), ("p", "-"))
        ])]
        self.assertTrue(self.leads("odd", "list", [("odd", 2, [step, again])] + into))
        self.assertTrue(self.leads("odd", "list", [("odd", 2, [step])] + into))
        broken = (
            ("b", "b", ()),
            ("p", "p", (("odd", ("p", "b")),)),
            ("b", "p", (("odd", ("p", "b")),)),
            ("p", "b", (("odd", ("p", "b")),)),
            ("-", "p", (("part", ("p", "b")),)),
            ("b", "p", (("odd", ("p", "a")),)),
            ("b", "p", (("odd", ("p", "-")),)),
            ("b", "p", (("odd", ("p", "p")),)),
            ("b", "p", (("list", ("p",)),)),
            ("-", "q", (("odd", ("q", "b")),)),
            ("q", "p", (("odd", ("p", "b")), ("list", ("q",)))),
            ("p", "q", (("odd", ("p", "b")), ("odd", ("q", "b")))),
        )
        for rule in broken:
            for rules in ([step, rule], [rule, step], [step, again, rule]):
                self.assertFalse(self.leads("odd", "list", [("odd", 2, rules), PART] + into), rule)
                self.assertFalse(self.leads("odd", "odd", [("odd", 2, rules), PART] + into), rule)

    def test_the_other_has_each_rule(self):
        end = ("-", "-", ())
        for rule in (
            ("p", "-", (("goal", ("p",)),)),
            ("a", "p", (("goal", ("p",)),)),
            ("p", "p", (("goal", ("p",)),)),
            ("-", "p", (("list", ("p",)),)),
            ("-", "q", (("goal", ("q",)),)),
            ("q", "p", (("goal", ("p",)), ("goal", ("q",)))),
        ):
            self.assertFalse(self.leads("part", "goal", [PART, LIST, ("goal", 1, [end, rule])]), rule)
        self.assertFalse(self.leads("part", "goal", [PART, ("goal", 1, [end])]))
        self.assertTrue(self.leads("part", "goal", [PART, ("goal", 1, [end, ("-", "p", (("goal", ("p",)),))])]))
        self.assertFalse(self.leads("part", "part", [("part", 2, [("-", "b", ())])]))
        self.assertFalse(self.leads("part", "part", [("part", 2, [("b", "-", ()), PART[2][1]])]))

    def test_no_such_shape(self):
        book = Book([LIST, PART])
        for one, other, name in (
            ("tree", "list", "tree"),
            ("list", "tree", "tree"),
            ("part", "tree", "tree"),
            ("ring", "tree", "ring"),
            ("tree", "ring", "tree"),
            ("tree", "tree", "tree"),
            ("cell", "", "cell"),
        ):
            with self.assertRaises(NoShape) as caught:
                book.leads_into(one, other)
            self.assertEqual(caught.exception.name, name)


class NeedItems(unittest.TestCase):
    def need(self, items, shapes=SHAPES):
        return need_items(Book(shapes), Web([("x", 1)], items))

    def refuse(self, place, items, shapes=SHAPES):
        book, web = Book(shapes), Web([("x", 1)], items)
        text = repr(web)
        with self.assertRaises(BadItem) as caught:
            need_items(book, web)
        self.assertEqual(caught.exception.place, place)
        self.assertEqual(repr(web), text)
        self.assertEqual(book.shape_rows(), shapes)

    def test_webs_of_the_books_words(self):
        self.assertIsNone(need_items(Book([]), Web()))
        self.assertIsNone(need_items(Book([]), Web([("x", 0), ("y", -1)])))
        self.assertIsNone(self.need([("cell", (0, 1))], []))
        self.assertIsNone(self.need([("list", ())]))
        self.assertIsNone(self.need([("part", (0,))]))
        self.assertIsNone(self.need([("way", (0, -1))]))
        self.assertIsNone(self.need([("cell", (2, 3)), ("part", (3,)), ("way", (1, 4)), ("tree", ())]))

    def test_other_words(self):
        self.refuse(0, [("list", ())], [])
        self.refuse(0, [("lists", ())])
        self.refuse(1, [("cell", (2, 0)), ("goal", ())])

    def test_other_counts_of_targets(self):
        for word, right in (("list", 0), ("part", 1), ("way", 2)):
            for many in (0, 1, 2):
                items = [("part", (2,)), (word, (0,) * many)]
                if many == right:
                    self.assertIsNone(self.need(items))
                else:
                    self.refuse(1, items)

    def test_the_first_place(self):
        self.refuse(1, [("cell", (2, 3)), ("list", (0,)), ("goal", ())])
        self.refuse(0, [("goal", (2, 3)), ("list", (0,)), ("goal", ())])
        self.refuse(2, [("cell", (2, 3)), ("list", ()), ("goal", ())])

    def test_places_are_of_the_web_as_it_is_made(self):
        web = Web([("x", 2)], [("goal", ()), ("cell", (1, 0))])
        with self.assertRaises(BadItem) as caught:
            need_items(Book([]), web)
        self.assertEqual(caught.exception.place, 1)

    def test_both_stay_as_they_are(self):
        book, web = Book(SHAPES), Web([("x", 1)], [("cell", (2, 0)), ("part", (1,))])
        need_items(book, web)
        self.assertEqual(book.shape_rows(), SHAPES)
        self.assertEqual(repr(web), "x=1 1:cell(2,-) 2:part(1)")


if __name__ == "__main__":
    unittest.main()
