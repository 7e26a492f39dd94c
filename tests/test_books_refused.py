"""Points 5, 6 and 7: books that are refused, and by what."""

import itertools
import unittest

from osier.books import Book
from osier.errors import BadName, BadPoints, BadRule, Full, Groundless

END = ("-", "-", ())
LIST = ("list", 1, [END, ("-", "p", (("list", ("p",)),))])
PART = ("part", 2, [("-", "b", ()), ("-", "p", (("part", ("p", "b")),))])
WAY = ("way", 3, [("b", "c", ())])
COUNTS = {"list": 1, "part": 2, "way": 3}


def one_rule(points, rule):
    """Shapes of which the last one has a right rule and then this one, as its rule 1."""
    ground = {1: ("-", "-", ()), 2: ("b", "-", ()), 3: ("b", "c", ())}[points]
    return [LIST, PART, WAY, ("odd", points, [ground, rule])]


def is_right(points, rule):
    """Point 6, told by itself and step by step, without the program."""
    left, right, inner = rule
    counts = dict(COUNTS, odd=points)
    if len(inner) > 2 or any(name not in counts or len(letters) != counts[name] for name, letters in inner):
        return False
    own = {1: {"a"}, 2: {"a", "b"}, 3: {"a", "b", "c"}}[points]
    shape_at = {}
    for name, letters in inner:
        if letters[0] not in ("p", "q") or letters[0] in shape_at:
            return False
        shape_at[letters[0]] = letters
    every = [left, right]
    for _, letters in inner:
        every.extend(letters)
    if any(letter != "-" and letter not in own and letter not in shape_at for letter in every):
        return False
    if any(letter not in (left, right) for letter in shape_at):
        return False
    come, walk = {"a"}, [left, right]
    while walk:
        letter = walk.pop()
        if letter not in come:
            come.add(letter)
            walk.extend(shape_at.get(letter, ()))
    return own <= come


class Refused(unittest.TestCase):
    def refuse(self, error, field, worth, shapes):
        with self.assertRaises(error) as caught:
            Book(shapes)
        self.assertIs(type(caught.exception), error)
        self.assertEqual(getattr(caught.exception, field), worth)

    def bad_name(self, name, shapes):
        self.refuse(BadName, "name", name, shapes)

    def bad_points(self, name, shapes):
        self.refuse(BadPoints, "name", name, shapes)

    def bad_rule(self, number, shapes):
        self.refuse(BadRule, "number", number, shapes)

    def groundless(self, name, shapes):
        self.refuse(Groundless, "name", name, shapes)

    def test_names_that_are_none(self):
        for name in ("", "a", "abcdefghi", "cell", "List", "li st", "list1", "li-st", "list\n"):
            self.bad_name(name, [(name, 1, [END])])
            self.bad_name(name, [LIST, (name, 1, [END]), ("", 1, [END])])

    def test_names_that_stood_ahead(self):
        self.bad_name("list", [LIST, LIST])
        self.bad_name("list", [LIST, PART, ("list", 2, [("b", "b", ())]), PART])
        self.bad_name("part", [LIST, PART, PART, LIST])

    def test_counts_of_points(self):
        for points in (0, 4, -1, 5, 100):
            self.bad_points("odd", [("odd", points, [END])])
            self.bad_points("odd", [LIST, ("odd", points, [END]), ("more", points, [END])])
        self.assertEqual([points for _, points, _ in Book([LIST, PART, WAY]).shape_rows()], [1, 2, 3])

    def test_counts_of_rules(self):
        self.bad_rule(-1, [("odd", 1, [])])
        self.bad_rule(-1, [("odd", 1, [END] * 7)])
        self.assertEqual(len(Book([("odd", 1, [END] * 6)]).rules("odd")), 6)
        self.bad_rule(-1, [("odd", 1, [("x", "-", ())] * 7)])

    def test_nine_shapes(self):
        shapes = [(name * 2, 1, [END]) for name in "abcdefghi"]
        self.assertEqual(len(Book(shapes[:8])), 8)
        with self.assertRaises(Full):
            Book(shapes)

    def test_letters(self):
        for wrong in ("b", "c", "p", "q", "d", "", "A", "ab", "pq", "--", " ", "abc", "a-"):
            for rule in ((wrong, "-", ()), ("-", wrong, ()), ("a", wrong, ())):
                self.bad_rule(1, one_rule(1, rule))
        self.bad_rule(1, one_rule(2, ("c", "b", ())))
        self.bad_rule(1, one_rule(2, ("b", "p", ())))
        self.bad_rule(1, one_rule(3, ("b", "p", (("part", ("p", "d")),))))
        self.bad_rule(1, one_rule(1, ("p", "-", (("part", ("p", "b")),))))
        self.bad_rule(1, one_rule(1, ("p", "-", (("part", ("p", "q")),))))
        self.bad_rule(1, one_rule(1, ("p", "-", (("part", ("p", "")),))))
        self.bad_rule(1, one_rule(1, ("p", "-", (("part", ("p", "pa")),))))

    def test_inner_shapes(self):
        self.bad_rule(1, one_rule(1, ("p", "-", (("none", ("p",)),))))
        self.bad_rule(1, one_rule(1, ("p", "-", (("cell", ("p", "-", "-")),))))
        self.bad_rule(1, one_rule(1, ("p", "-", (("list", ()),))))
        self.bad_rule(1, one_rule(1, ("p", "-", (("list", ("p", "-")),))))
        self.bad_rule(1, one_rule(1, ("p", "-", (("part", ("p",)),))))
        self.bad_rule(1, one_rule(1, ("p", "-", (("way", ("p", "a")),))))
        self.bad_rule(1, one_rule(1, ("p", "-", (("way", ("p", "a", "-", "-")),))))
        two = (("list", ("p",)), ("list", ("q",)))
        self.bad_rule(1, one_rule(1, ("p", "q", two + (("list", ("p",)),))))
        self.bad_rule(1, one_rule(1, ("p", "q", two + (("list", ("a",)),))))
        self.bad_rule(1, one_rule(1, ("p", "-", (("list", ("p",)), ("list", ("p",))))))
        self.bad_rule(1, one_rule(1, ("p", "a", (("list", ("a",)),))))
        self.bad_rule(1, one_rule(1, ("-", "-", (("list", ("-",)),))))

    def test_inner_letters_stand_in_the_fields(self):
        self.bad_rule(1, one_rule(1, ("-", "-", (("list", ("p",)),))))
        self.bad_rule(1, one_rule(1, ("p", "p", (("list", ("p",)), ("list", ("q",))))))
        self.bad_rule(1, one_rule(1, ("p", "a", (("part", ("p", "q")), ("list", ("q",))))))

    def test_points_are_come_to(self):
        self.bad_rule(1, one_rule(2, ("-", "-", ())))
        self.bad_rule(1, one_rule(2, ("a", "p", (("part", ("p", "a")),))))
        self.bad_rule(1, one_rule(3, ("b", "-", ())))
        self.bad_rule(1, one_rule(3, ("c", "a", ())))
        self.bad_rule(1, one_rule(3, ("b", "p", (("part", ("p", "b")),))))

    def test_right_rules(self):
        for points, rule in (
            (1, ("a", "a", ())),
            (1, ("q", "-", (("list", ("q",)),))),
            (1, ("p", "p", (("way", ("p", "p", "-")),))),
            (1, ("q", "p", (("part", ("q", "p")), ("part", ("p", "q"))))),
            (1, ("p", "-", (("odd", ("p",)),))),
            (2, ("b", "b", ())),
            (2, ("p", "-", (("part", ("p", "b")),))),
            (3, ("p", "-", (("way", ("p", "c", "b")),))),
            (3, ("p", "q", (("part", ("q", "b")), ("part", ("p", "c"))))),
            (3, ("p", "c", (("odd", ("p", "a", "b")),))),
        ):
            self.assertEqual(Book(one_rule(points, rule)).rules("odd")[1], rule)

    def test_all_small_rules(self):
        inners = [()]
        one_letters = [("list", letters) for letters in [("p",), ("q",), ("a",), ()]]
        two_letters = [("part", letters) for letters in itertools.product("pqb-", "abpq-")]
        three_letters = [("way", ("p",) + letters) for letters in itertools.product("abcq-", repeat=2)]
        every = one_letters + two_letters + three_letters + [("odd", ("p",)), ("odd", ("p", "b")), ("none", ("p",))]
        inners.extend((inner,) for inner in every)
        inners.extend(itertools.product(one_letters + two_letters[:12], three_letters[:7] + two_letters[3:7]))
        seen = {True: 0, False: 0}
        for points, left, right, inner in itertools.product((1, 2, 3), "abcpq-", "abcpq-", inners):
            rule = (left, right, inner)
            wanted = is_right(points, rule)
            seen[wanted] += 1
            try:
                Book(one_rule(points, rule))
                self.assertTrue(wanted, (points, rule))
            except BadRule as error:
                self.assertEqual((error.number, wanted), (1, False), (points, rule))
        self.assertGreater(min(seen.values()), 300)

    def test_the_first_rule_that_is_wrong(self):
        bad = ("b", "-", ())
        self.bad_rule(0, [("odd", 1, [bad, END])])
        self.bad_rule(2, [("odd", 1, [END, END, bad, bad])])
        self.bad_rule(5, [("odd", 1, [END] * 5 + [bad])])
        self.bad_rule(1, [LIST, ("odd", 1, [END, bad]), ("more", 1, [bad])])
        self.bad_rule(-1, [("odd", 1, []), ("more", 1, [bad])])
        self.bad_rule(0, [("odd", 1, [bad]), ("more", 1, [])])

    def test_inner_shapes_may_come_behind(self):
        book = Book([("ring", 1, [("-", "p", (("part", ("p", "a")),))]), PART])
        self.assertEqual(book.height("ring"), 2)

    def test_shapes_without_a_least_heap(self):
        again = ("-", "p", (("odd", ("p",)),))
        self.groundless("odd", [("odd", 1, [again])])
        self.groundless("odd", [LIST, ("odd", 1, [again])])
        self.groundless("one", [
            LIST,
            ("one", 1, [("-", "p", (("two", ("p",)),))]),
            ("two", 1, [("-", "p", (("one", ("p",)),)), ("p", "q", (("list", ("p",)), ("one", ("q",))))]),
        ])
        top = ("top", 1, [("p", "q", (("list", ("p",)), ("odd", ("q",))))])
        self.groundless("top", [top, ("odd", 1, [again]), LIST])
        self.assertEqual(len(Book([("odd", 1, [again, END])])), 1)

    def test_full_goes_ahead_of_all(self):
        wrong = [("cell", 1, [END]), ("aa", 1, [END]), ("odd", 9, [END]), ("odd", 1, [])]
        for shape in wrong + [("odd", 1, [("b", "-", ())])]:
            with self.assertRaises(Full):
                Book([(name * 2, 1, [END]) for name in "abcdefgh"] + [shape])
            with self.assertRaises(Full):
                Book([shape] + [(name * 2, 1, [END]) for name in "abcdefgh"])

    def test_shape_by_shape(self):
        self.bad_name("X", [("X", 9, [])])
        self.bad_points("odd", [("odd", 9, []), ("X", 1, [END])])
        self.bad_name("X", [("X", 1, [END]), ("odd", 9, [])])
        self.bad_name("list", [LIST, ("list", 0, [])])
        self.bad_points("odd", [LIST, ("odd", 0, [END]), LIST])

    def test_names_and_points_go_ahead_of_rules(self):
        self.bad_name("X", [("odd", 1, []), ("X", 1, [END])])
        self.bad_points("more", [("odd", 1, [("b", "-", ())]), ("more", 4, [END])])
        self.bad_name("odd", [("odd", 1, []), ("odd", 1, [END])])

    def test_rules_go_ahead_of_ground(self):
        again = ("-", "p", (("odd", ("p",)),))
        self.bad_rule(0, [("odd", 1, [again]), ("more", 1, [("b", "-", ())])])
        self.bad_rule(-1, [("odd", 1, [again]), ("more", 1, [])])


if __name__ == "__main__":
    unittest.main()
