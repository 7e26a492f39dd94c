"""Points 1 to 4: webs made, refused, alike and shown."""

import itertools
import random
import unittest

from osier.errors import BadName, BadWeb, NoName
from osier.webs import Web


def turned(names, items, order):
    """The same web with point k called order[k - 1]."""
    new = {0: 0, -1: -1}
    for point, number in enumerate(order, start=1):
        new[point] = number
    moved = [None] * len(items)
    for point, (word, targets) in enumerate(items, start=1):
        moved[new[point] - 1] = (word, tuple(new[target] for target in targets))
    return [(name, new[target]) for name, target in names], moved


def some_web(chance, points):
    """Names and items in which every point is come to."""
    items = []
    for point in range(points):
        word, many = chance.choice([("cell", 2), ("list", 0), ("part", 1), ("ring", 2)])
        if point < points - 1 and many == 0:
            word, many = "cell", 2
        targets = [chance.randint(-1, points) for _ in range(many)]
        if point < points - 1:
            targets[chance.randrange(many)] = point + 2
        items.append((word, tuple(targets)))
    many = chance.randint(1, 6)
    called = chance.sample(["a", "b", "xy", "zz", "head", "abcdef"], many)
    names = [(name, chance.randint(-1, points)) for name in called]
    if points:
        names[0] = (names[0][0], 1)
    return names, items


class Made(unittest.TestCase):
    def test_nothing(self):
        for web in (Web(), Web([]), Web((), ()), Web([], []), Web(names=[], items=[])):
            self.assertEqual(web.name_rows(), [])
            self.assertEqual(web.item_rows(), [])
            self.assertEqual(len(web), 0)
            self.assertIs(web.is_heap(), True)

    def test_one_name(self):
        self.assertEqual(Web([("x", 0)]).name_rows(), [("x", 0)])
        self.assertEqual(Web([("x", -1)]).name_rows(), [("x", -1)])
        self.assertEqual(Web([("abcdef", 1)], [("cell", (-1, 1))]).item_rows(), [("cell", (-1, 1))])

    def test_words_and_counts_of_targets(self):
        items = [("cell", (2, 3)), ("tree", ()), ("part", (4,)), ("segments", (0, -1))]
        web = Web([("x", 1)], items)
        self.assertEqual(web.item_rows(), items)
        self.assertEqual(len(web), 4)

    def test_a_word_of_two_and_of_eight_letters(self):
        for word in ("ab", "abcdefgh"):
            for targets in ((), (0,), (0, -1)):
                self.assertEqual(Web([("x", 1)], [(word, targets)]).item_rows(), [(word, targets)])

    def test_six_names_are_told_sorted(self):
        names = [("z", 0), ("b", -1), ("a", 0), ("yy", 0), ("ab", 0), ("y", -1)]
        told = [("a", 0), ("ab", 0), ("b", -1), ("y", -1), ("yy", 0), ("z", 0)]
        self.assertEqual(Web(names).name_rows(), told)

    def test_numbers_by_names_sorted_then_by_points(self):
        web = Web([("y", 1), ("x", 3)], [("cell", (4, 2)), ("end", ()), ("cell", (4, 3)), ("part", (5,)), ("end", ())])
        self.assertEqual(web.name_rows(), [("x", 1), ("y", 2)])
        told = [("cell", (3, 1)), ("cell", (3, 4)), ("part", (5,)), ("end", ()), ("end", ())]
        self.assertEqual(web.item_rows(), told)

    def test_all_of_a_level_is_numbered_ahead_of_what_is_behind(self):
        items = [("cell", (2, 3)), ("cell", (4, 5)), ("cell", (6, 7))] + [("end", ())] * 4
        self.assertEqual(Web([("x", 1)], items).item_rows(), items)
        end, tree, many = ("end", ()), ("tree", ()), ("list", ())
        deep = [("cell", (2, 5)), ("cell", (3, 4)), end, tree, ("cell", (6, 7)), end, many]
        told = [("cell", (2, 3)), ("cell", (4, 5)), ("cell", (6, 7)), end, tree, end, many]
        self.assertEqual(Web([("x", 1)], deep).item_rows(), told)

    def test_left_ahead_of_right_and_first_meeting_counts(self):
        web = Web([("x", 1)], [("cell", (3, 2)), ("part", (3,)), ("tree", ())])
        self.assertEqual(web.item_rows(), [("cell", (2, 3)), ("tree", ()), ("part", (2,))])

    def test_numbers_turned_about_come_out_alike(self):
        names = [("w", 2), ("x", 1), ("y", 0), ("z", -1)]
        items = [("cell", (2, 3)), ("cell", (-1, 4)), ("part", (1,)), ("ring", (0, 4))]
        whole = Web(names, items)
        self.assertEqual(whole.name_rows(), [("w", 1), ("x", 2), ("y", 0), ("z", -1)])
        for order in itertools.permutations([1, 2, 3, 4]):
            web = Web(*turned(names, items, order))
            self.assertEqual(web.name_rows(), whole.name_rows())
            self.assertEqual(web.item_rows(), whole.item_rows())
            self.assertTrue(web == whole)

    def test_many_webs_turned_about(self):
        chance = random.Random(4)
        for _ in range(300):
            points = chance.randint(0, 10)
            names, items = some_web(chance, points)
            web = Web(names, items)
            order = chance.sample(range(1, points + 1), points)
            other_names, other_items = turned(names, items, order)
            chance.shuffle(other_names)
            other = Web(other_names, other_items)
            self.assertEqual((web.name_rows(), web.item_rows()), (other.name_rows(), other.item_rows()))
            self.assertEqual(repr(web), repr(other))
            self.assertEqual(len(web), points)
            again = Web(web.name_rows(), web.item_rows())
            self.assertEqual((web.name_rows(), web.item_rows()), (again.name_rows(), again.item_rows()))
            self.check_first_meetings(web)

    def check_first_meetings(self, web):
        """New numbers rise by one along names and then along items."""
        seen = 0
        walk = [target for _, target in web.name_rows()]
        for _, targets in web.item_rows():
            walk.extend(targets)
        for target in walk:
            self.assertLessEqual(target, seen + 1)
            seen = max(seen, target)
        self.assertEqual(seen, len(web))

    def test_targets_of_names(self):
        web = Web([("x", 2), ("y", 0), ("z", -1), ("abc", 1)], [("tree", ()), ("cell", (0, 0))])
        self.assertEqual([web.target(name) for name in ("abc", "x", "y", "z")], [1, 2, 0, -1])

    def test_no_such_name(self):
        web = Web([("x", 1)], [("tree", ())])
        for name in ("y", "xx", "", "tree", "X"):
            with self.assertRaises(NoName) as caught:
                web.target(name)
            self.assertEqual(caught.exception.name, name)
        with self.assertRaises(NoName):
            Web().target("x")

    def test_heaps(self):
        self.assertIs(Web([("x", 0)]).is_heap(), True)
        self.assertIs(Web([("x", 1)], [("cell", (1, -1))]).is_heap(), True)
        self.assertIs(Web([("x", 1)], [("cell", (2, 0)), ("cell", (0, 0))]).is_heap(), True)
        self.assertIs(Web([("x", 1)], [("cell", (2, 0)), ("list", ())]).is_heap(), False)
        self.assertIs(Web([("x", 1)], [("cells", (0, 0))]).is_heap(), False)

    def test_six_names_and_200_points(self):
        names = [(name, 1) for name in "abcdef"]
        items = [("cell", (point + 1, 0)) for point in range(1, 200)] + [("cell", (0, 0))]
        web = Web(names, items)
        self.assertEqual(len(web), 200)
        self.assertEqual(web.item_rows(), items)


class Kept(unittest.TestCase):
    """Nothing that is handed in is changed or kept to be changed; what is told is the asker's own."""

    def test_lists_and_tuples_handed_in(self):
        lists = Web([("x", 1)], [("cell", [2, 0]), ("tree", [])])
        tuples = Web((("x", 1),), (("cell", (2, 0)), ("tree", ())))
        self.assertEqual(lists.item_rows(), tuples.item_rows())
        self.assertEqual(lists.name_rows(), tuples.name_rows())
        self.assertTrue(lists == tuples)

    def test_handed_in_lists_stay_as_they_are(self):
        names, targets = [("y", 2), ("x", 1)], [1, 2]
        items = [("cell", targets), ("tree", ())]
        Web(names, items)
        self.assertEqual(names, [("y", 2), ("x", 1)])
        self.assertEqual(items, [("cell", [1, 2]), ("tree", ())])

    def test_changes_behind_the_call(self):
        targets = [2, 0]
        names, items = [("x", 1)], [("cell", targets), ("tree", ())]
        web = Web(names, items)
        targets[0] = 0
        names.append(("y", 0))
        items.clear()
        self.assertEqual(web.name_rows(), [("x", 1)])
        self.assertEqual(web.item_rows(), [("cell", (2, 0)), ("tree", ())])
        self.assertEqual(repr(web), "x=1 1:cell(2,-) 2:tree()")

    def test_told_lists_are_the_askers_own(self):
        web = Web([("x", 1), ("y", 0)], [("cell", (2, 0)), ("tree", ())])
        web.name_rows().clear()
        web.item_rows()[0] = ("tree", ())
        web.item_rows().append(("tree", ()))
        self.assertEqual(web.name_rows(), [("x", 1), ("y", 0)])
        self.assertEqual(web.item_rows(), [("cell", (2, 0)), ("tree", ())])
        self.assertEqual(len(web), 2)

    def test_kinds_that_are_told(self):
        web = Web([("x", 1)], [("cell", [2, 0]), ("tree", [])])
        self.assertIs(type(web.name_rows()), list)
        self.assertIs(type(web.item_rows()), list)
        for row in web.name_rows() + web.item_rows():
            self.assertIs(type(row), tuple)
        for _, targets in web.item_rows():
            self.assertIs(type(targets), tuple)


class Refused(unittest.TestCase):
    def bad_name(self, name, names, items=()):
        with self.assertRaises(BadName) as caught:
            Web(names, items)
        self.assertEqual(caught.exception.name, name)

    def bad_web(self, place, names, items=()):
        with self.assertRaises(BadWeb) as caught:
            Web(names, items)
        self.assertEqual(caught.exception.place, place)
        self.assertIs(type(caught.exception.place), type(place))

    def test_names_that_are_none(self):
        for name in ("", "abcdefg", "X", "xY", "x1", "x_", "x y", " x", "x\n", "-", "x=", "1"):
            self.bad_name(name, [(name, 0)])
            self.bad_name(name, [("x", 0), (name, 0), ("XX", 0)])

    def test_names_that_stood_ahead(self):
        self.bad_name("x", [("x", 0), ("x", 0)])
        self.bad_name("y", [("x", 0), ("y", 0), ("y", -1), ("x", 0)])
        self.bad_name("x", [("x", 0), ("y", 0), ("x", 0), ("X", 0), ("y", 0)])
        self.bad_name("X", [("x", 0), ("X", 0), ("x", 0)])

    def test_words_that_are_none(self):
        for word in ("", "a", "abcdefghi", "Cell", "li-st", "list1", "li st", "two\n", "CELL"):
            self.bad_web(0, [("x", 1)], [(word, ())])
            self.bad_web(1, [("x", 1)], [("part", (2,)), (word, (0, 0))])

    def test_counts_of_targets(self):
        self.bad_web(0, [("x", 1)], [("tree", (0, 0, 0))])
        self.bad_web(0, [("x", 1)], [("cell", (0, 0, 0))])
        self.bad_web(0, [("x", 1)], [("cell", (0,))])
        self.bad_web(0, [("x", 1)], [("cell", ())])
        self.bad_web(2, [("x", 1)], [("cell", (2, 3)), ("tree", ()), ("cell", (0,))])

    def test_targets_of_items(self):
        for wrong in (2, 3, 200, -2, -3, -200):
            self.bad_web(0, [("x", 1)], [("cell", (0, wrong))])
            self.bad_web(0, [("x", 1)], [("cell", (wrong, 0))])
            self.bad_web(0, [("x", 1)], [("part", (wrong,))])
        for wrong in (3, 200, -2, -3, -200):
            self.bad_web(1, [("x", 1)], [("part", (2,)), ("part", (wrong,))])

    def test_the_first_wrong_item(self):
        self.bad_web(1, [("x", 1)], [("cell", (2, 3)), ("tree", (9,)), ("X", ())])
        self.bad_web(0, [("x", 1)], [("cell", (9, 3)), ("tree", (9,)), ("X", ())])

    def test_targets_of_names(self):
        for wrong in (1, 2, 200, -2, -3):
            self.bad_web(-1, [("x", wrong)])
        self.bad_web(-1, [("x", 1), ("y", 2)], [("tree", ())])
        self.bad_web(-1, [("x", -2), ("y", 1)], [("tree", ())])

    def test_points_that_nothing_comes_to(self):
        self.bad_web(None, [], [("tree", ())])
        self.bad_web(None, [("x", 0)], [("tree", ())])
        self.bad_web(None, [("x", -1)], [("cell", (1, 1))])
        self.bad_web(None, [("x", 1)], [("tree", ()), ("cell", (1, 1))])
        self.bad_web(None, [("x", 1)], [("tree", ()), ("part", (3,)), ("part", (2,))])
        self.bad_web(None, [("x", 2)], [("part", (2,)), ("cell", (2, 3)), ("tree", ())])

    def test_seven_names(self):
        self.bad_web(None, [(name, 0) for name in "abcdefg"])
        self.bad_web(None, [(name, 1) for name in "abcdefg"], [("tree", ())])

    def test_201_points(self):
        items = [("cell", (point + 1, 0)) for point in range(1, 201)] + [("cell", (0, 0))]
        self.bad_web(None, [("x", 1)], items)
        self.assertEqual(len(Web([("x", 2)], items[:-2] + [("cell", (0, 1))])), 200)

    def test_names_go_ahead_of_all(self):
        self.bad_name("X", [("x", 9), ("X", 0)], [("", (7,))])
        self.bad_name("x", [("x", 9), ("x", 9)], [("cell", ())])
        self.bad_name("a", [(name, 0) for name in "abcdefga"])
        self.bad_name("", [("", 0)], [("tree", ())])

    def test_items_go_ahead_of_targets_of_names(self):
        self.bad_web(0, [("x", 9)], [("", ())])
        self.bad_web(1, [("x", -2)], [("part", (2,)), ("part", (3,))])

    def test_items_go_ahead_of_the_whole(self):
        self.bad_web(0, [], [("cell", (0,))])
        self.bad_web(1, [(name, 1) for name in "abcdefg"], [("tree", ()), ("cell", (0, 3))])
        self.bad_web(200, [("x", 1)], [("cell", (2, 0))] * 200 + [("cell", (202, 0))])

    def test_targets_of_names_go_ahead_of_the_whole(self):
        self.bad_web(-1, [("x", 9)], [("tree", ())])
        self.bad_web(-1, [(name, -2) for name in "abcdefg"])


class Alike(unittest.TestCase):
    NAMES = [("x", 1), ("y", 0)]
    ITEMS = [("cell", (2, 0)), ("part", (-1,))]

    def same(self, one, other):
        self.assertIs(one == other, True)
        self.assertIs(other == one, True)
        self.assertIs(one != other, False)
        self.assertIs(other != one, False)

    def unlike(self, one, other):
        self.assertIs(one == other, False)
        self.assertIs(other == one, False)
        self.assertIs(one != other, True)
        self.assertIs(other != one, True)

    def test_numbers_alone(self):
        web = Web(self.NAMES, self.ITEMS)
        self.same(web, web)
        self.same(web, Web(self.NAMES, self.ITEMS))
        self.same(web, Web(list(reversed(self.NAMES)), self.ITEMS))
        self.same(web, Web([("x", 2), ("y", 0)], [("part", (-1,)), ("cell", (1, 0))]))
        self.same(Web(), Web([], []))

    def test_unlike_webs(self):
        web = Web(self.NAMES, self.ITEMS)
        self.unlike(web, Web(self.NAMES, [("cell", (2, 1)), ("part", (-1,))]))
        self.unlike(web, Web(self.NAMES, [("cell", (2, 0)), ("part", (0,))]))
        self.unlike(web, Web(self.NAMES, [("cell", (0, 2)), ("part", (-1,))]))
        self.unlike(web, Web(self.NAMES, [("cell", (2, 0)), ("list", (-1,))]))
        self.unlike(web, Web(self.NAMES, [("cell", (2, 0)), ("part", (-1, 0))]))
        self.unlike(web, Web([("x", 1), ("z", 0)], self.ITEMS))
        self.unlike(web, Web([("x", 1), ("y", -1)], self.ITEMS))
        self.unlike(web, Web([("x", 1), ("y", 2)], self.ITEMS))
        self.unlike(web, Web([("x", 1)], self.ITEMS))
        self.unlike(web, Web([("x", 1), ("y", 0), ("z", 0)], self.ITEMS))
        self.unlike(web, Web([("y", 1), ("x", 0)], self.ITEMS))
        self.unlike(web, Web())
        self.unlike(Web([("x", 0)]), Web())

    def test_no_web(self):
        web = Web(self.NAMES, self.ITEMS)
        for other in (repr(web), (self.NAMES, self.ITEMS), self.NAMES, None, 0, 2, True, [], "empty", object()):
            self.unlike(web, other)
            self.unlike(Web(), other)

    def test_equal_to_no_look_alike(self):
        class LookAlike:
            name_pairs = Web(self.NAMES, self.ITEMS).name_pairs
            item_pairs = Web(self.NAMES, self.ITEMS).item_pairs

        self.unlike(Web(self.NAMES, self.ITEMS), LookAlike())


class Shown(unittest.TestCase):
    def shows(self, text, names=(), items=()):
        self.assertEqual(repr(Web(names, items)), text)
        self.assertEqual(str(Web(names, items)), text)

    def test_texts(self):
        self.shows("empty")
        self.shows("x=-", [("x", 0)])
        self.shows("z=*", [("z", -1)])
        self.shows("x=- y=*", [("y", -1), ("x", 0)])
        self.shows("x=1 1:tree()", [("x", 1)], [("tree", ())])
        self.shows("x=1 1:cell(-,*)", [("x", 1)], [("cell", (0, -1))])
        self.shows(
            "x=1 y=- z=* 1:cell(2,-) 2:list(3) 3:tree()",
            [("z", -1), ("x", 3), ("y", 0)],
            [("tree", ()), ("list", (1,)), ("cell", (2, 0))],
        )

    def test_numbers_of_several_signs(self):
        items = [("cell", (point + 1, point)) for point in range(1, 12)] + [("ring", (12, 1))]
        text = "a=1 bc=1 " + " ".join(f"{k}:cell({k + 1},{k})" for k in range(1, 12)) + " 12:ring(12,1)"
        self.shows(text, [("bc", 1), ("a", 1)], items)


if __name__ == "__main__":
    unittest.main()
