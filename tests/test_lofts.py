"""Points 1, 9, 25 and 26: a loft's deeds, what they make of it, and in which order they are refused."""

import unittest

from osier.books import Book
from osier.errors import (
    BadItem, BadLoftName, BadRow, BadRule, Full, Groundless, NoNumber, NoProgram, NoShape, Taken,
)
from osier.lofts import Loft
from osier.programs import Program
from osier.webs import read_web
from samples import BOOK, LET_GO, LIST, LIST_WEBS, LISTS, PART, SIX, TREE_WEB, WALK, seen, webs

FIVE = read_web("a=- b=- c=- d=- x=-")
DEEP = read_web("x=1 1:cell(2,3) 2:list() 3:ring()")
# A jump of each kind to each row and to the end, the row itself and the one that follows.
JUMPS = [("same", "x", "y", 4), ("none", "x", 1), ("maybe", 0), ("go", 3), ("nil", "x"), ("go", 5), ("maybe", 6)]


def walk_loft(book=LISTS):
    loft = Loft(book)
    loft.begin("walk", WALK.row_rows(), LIST_WEBS)
    return loft


def jump_loft(lossy=False):
    loft = Loft(LISTS)
    loft.begin("j", JUMPS, webs("x=-"), lossy=lossy)
    return loft


def moved(rows, numbers):
    """The rows with jumps by new numbers."""
    return [row[:-1] + (numbers[row[-1]],) if isinstance(row[-1], int) else row for row in rows]


class Deeds(unittest.TestCase):
    def test_a_new_loft(self):
        loft = Loft(LISTS)
        self.assertEqual((loft.names(), len(loft), loft.book()), ([], 0, LISTS))
        self.assertEqual(len(Loft(Book([]))), 0)

    def test_begin(self):
        loft = Loft(LISTS)
        self.assertIsNone(loft.begin("walk", WALK.row_rows(), LIST_WEBS))
        self.assertEqual((loft.names(), len(loft)), (["walk"], 1))
        self.assertEqual(loft.program("walk"), WALK)
        self.assertIs(loft.program("walk").lossy, False)
        self.assertEqual(loft.starts("walk"), LIST_WEBS)
        self.assertIsNone(loft.wishes("walk"))
        loft.begin("a", tuple(LET_GO.row_rows()), tuple(LIST_WEBS), lossy=True)
        loft.begin("abcdefgh", [("go", 0)], webs("empty"), lossy=False)
        self.assertEqual((loft.names(), len(loft)), (["a", "abcdefgh", "walk"], 3))
        self.assertEqual(loft.program("a"), Program(LET_GO.row_rows(), lossy=True))
        self.assertEqual(loft.program("abcdefgh"), Program([("go", 0)]))
        self.assertIs(type(loft.starts("a")), list)

    def test_beginnings_stay_as_they_were_handed_in(self):
        loft = Loft(LISTS)
        starts = webs("x=1 1:cell(-,2) 2:cell(-,-)", "x=-", "x=-", "q=* x=-")
        loft.begin("one", [("nil", "y")], starts)
        self.assertEqual(loft.starts("one"), starts)

    def test_drop(self):
        loft = walk_loft()
        loft.begin("other", [("go", 0)], LIST_WEBS)
        self.assertIsNone(loft.drop("walk"))
        self.assertEqual((loft.names(), len(loft)), (["other"], 1))
        loft.begin("walk", [("go", 1)], webs("x=*"))
        self.assertEqual(loft.program("walk"), Program([("go", 1)]))
        self.assertIsNone(loft.wishes("walk"))

    def test_a_dropped_program_leaves_no_wishes(self):
        loft = walk_loft()
        loft.wish("walk", LIST_WEBS)
        loft.drop("walk")
        loft.begin("walk", WALK.row_rows(), LIST_WEBS)
        self.assertIsNone(loft.wishes("walk"))

    def test_put(self):
        for at in range(len(JUMPS) + 1):
            for row in (("nil", "z"), ("go", at), ("maybe", 8), ("none", "x", 0), ("same", "x", "z", at)):
                loft = jump_loft()
                self.assertIsNone(loft.put("j", at, row))
                rows = moved(JUMPS, [number + (number >= at) for number in range(8)])
                self.assertEqual(loft.program("j").row_rows(), rows[:at] + [row] + rows[at:])

    def test_put_by_hand(self):
        loft = Loft(LISTS)
        loft.begin("p", [("maybe", 2), ("go", 0), ("none", "x", 3)], webs("x=-"))
        loft.put("p", 2, ("go", 2))
        # The jump to row 2 goes along with it; the end stays the end.
        self.assertEqual(loft.program("p").row_rows(), [("maybe", 3), ("go", 0), ("go", 2), ("none", "x", 4)])
        loft.put("p", 4, ("go", 5))
        self.assertEqual(
            loft.program("p").row_rows(), [("maybe", 3), ("go", 0), ("go", 2), ("none", "x", 5), ("go", 5)])
        loft.put("p", 0, ("nil", "x"))
        self.assertEqual(
            loft.program("p").row_rows(),
            [("nil", "x"), ("maybe", 4), ("go", 1), ("go", 3), ("none", "x", 6), ("go", 6)])

    def test_right(self):
        for at in range(len(JUMPS)):
            for row in (("nil", "z"), ("go", at), ("maybe", 7), ("none", "x", 0)):
                loft = jump_loft()
                self.assertIsNone(loft.right("j", at, row))
                self.assertEqual(loft.program("j").row_rows(), JUMPS[:at] + [row] + JUMPS[at + 1:])

    def test_take(self):
        for at in range(len(JUMPS)):
            loft = jump_loft()
            self.assertIsNone(loft.take("j", at))
            rows = moved(JUMPS, [number - (number > at) for number in range(8)])
            self.assertEqual(loft.program("j").row_rows(), rows[:at] + rows[at + 1:])

    def test_take_by_hand(self):
        loft = Loft(LISTS)
        loft.begin("p", [("maybe", 2), ("go", 3), ("go", 2), ("go", 4)], webs("x=-"))
        loft.take("p", 2)
        self.assertEqual(loft.program("p").row_rows(), [("maybe", 2), ("go", 2), ("go", 3)])
        # The row that followed the one that is taken out is the end now.
        loft.take("p", 2)
        self.assertEqual(loft.program("p").row_rows(), [("maybe", 2), ("go", 2)])
        loft.take("p", 0)
        self.assertEqual(loft.program("p").row_rows(), [("go", 1)])

    def test_rows_keep_lossy_starts_and_wishes(self):
        for lossy in (False, True):
            loft = jump_loft(lossy)
            loft.wish("j", LIST_WEBS)
            for deed in (("put", 1, ("nil", "z")), ("right", 0, ("nil", "w")), ("take", 3)):
                getattr(loft, deed[0])("j", *deed[1:])
                self.assertIs(loft.program("j").lossy, lossy)
                self.assertEqual(loft.starts("j"), webs("x=-"))
                self.assertEqual(loft.wishes("j"), LIST_WEBS)

    def test_put_and_take_are_each_others_way_back(self):
        for at in range(len(JUMPS) + 1):
            loft = jump_loft()
            loft.put("j", at, ("nil", "q"))
            loft.take("j", at)
            self.assertEqual(loft.program("j").row_rows(), JUMPS)

    def test_wish(self):
        loft = walk_loft()
        self.assertIsNone(loft.wish("walk", LIST_WEBS))
        self.assertEqual(loft.wishes("walk"), LIST_WEBS)
        self.assertIs(type(loft.wishes("walk")), list)
        loft.wish("walk", tuple(webs("x=*", "x=*")))
        self.assertEqual(loft.wishes("walk"), webs("x=*", "x=*"))
        loft.wish("walk", None)
        self.assertIsNone(loft.wishes("walk"))
        self.assertEqual(loft.starts("walk"), LIST_WEBS)

    def test_rule(self):
        loft = walk_loft()
        before = loft.book()
        rule = ("p", "-", (("list", ("p",)),))
        self.assertIsNone(loft.rule("list", 1, rule))
        self.assertEqual(loft.book(), Book([("list", 1, [("-", "-", ()), rule]), PART]))
        self.assertEqual(before, LISTS)
        self.assertEqual(before.shape_rows(), Book([LIST, PART]).shape_rows())
        loft.rule("part", 0, ("b", "b", ()))
        self.assertEqual(loft.book().rules("part"), [("b", "b", ()), PART[2][1]])
        self.assertEqual(loft.book().rules("list"), [("-", "-", ()), rule])

    def test_seven_programs(self):
        loft = Loft(LISTS)
        for name in "fedcba":
            loft.begin(name, WALK.row_rows(), LIST_WEBS)
        self.assertEqual((loft.names(), len(loft)), (list("abcdef"), 6))
        before = seen(loft)
        with self.assertRaises(Full):
            loft.begin("g", WALK.row_rows(), LIST_WEBS)
        self.assertEqual(seen(loft), before)
        loft.drop("c")
        loft.begin("g", WALK.row_rows(), LIST_WEBS)
        self.assertEqual((loft.names(), len(loft)), (list("abdefg"), 6))

    def test_a_book_stays_as_it_is(self):
        loft = Loft(BOOK)
        books = [loft.book()]
        for rule in (("p", "-", (("list", ("p",)),)), ("a", "p", (("list", ("p",)),)), ("-", "-", ())):
            loft.rule("list", 1, rule)
            books.append(loft.book())
        self.assertEqual(books[0], BOOK)
        self.assertEqual([book.rules("list")[1][0] for book in books], ["-", "p", "a", "-"])


class Refusals(unittest.TestCase):
    def refuses(self, loft, deed, kind, **fields):
        """The deed is refused by its method and by do_all, and changes nothing."""
        word, *places = deed
        before = seen(loft)
        for way in (lambda: getattr(loft, word)(*places), lambda: loft.do_all([deed])):
            with self.assertRaises(kind) as caught:
                way()
            self.assertIs(type(caught.exception), kind, deed)
            for field, worth in fields.items():
                self.assertEqual(getattr(caught.exception, field), worth, deed)
            self.assertEqual(seen(loft), before)

    def full_loft(self):
        loft = walk_loft()
        for name in "abcde":
            loft.begin(name, WALK.row_rows(), LIST_WEBS)
        return loft

    def test_begin(self):
        good, rows, wrong = LIST_WEBS, WALK.row_rows(), [("nil", "y"), ("odd", "x")]
        for loft in (walk_loft(), self.full_loft()):
            for name in ("", "A", "a1", "abcdefghi", "a b", "walk ", "-"):
                self.refuses(loft, ("begin", name, wrong, [TREE_WEB]), BadLoftName, name=name)
                self.refuses(loft, ("begin", name, rows, good), BadLoftName, name=name)
            self.refuses(loft, ("begin", "walk", wrong, [TREE_WEB]), Taken, name="walk")
            self.refuses(loft, ("begin", "walk", rows, good), Taken, name="walk")
            self.refuses(loft, ("begin", "new", wrong, [TREE_WEB, SIX]), BadRow, number=1)
            self.refuses(loft, ("begin", "new", [], [TREE_WEB]), BadRow, number=-1)
            self.refuses(loft, ("begin", "new", [("nil", "x")] * 25, [SIX]), BadRow, number=-1)
            self.refuses(loft, ("begin", "new", [("nil", name) for name in "abcdefg"], [SIX]), BadRow, number=-2)
            self.refuses(loft, ("begin", "new", [("go", 2)], [DEEP]), BadRow, number=0)
            self.refuses(loft, ("begin", "new", rows, [SIX, DEEP, TREE_WEB]), BadItem, place=2)
            self.refuses(loft, ("begin", "new", rows, good + [TREE_WEB, DEEP]), BadItem, place=0)
            self.refuses(loft, ("begin", "new", rows, good + [SIX]), Full)
        self.refuses(self.full_loft(), ("begin", "new", rows, good), Full)

    def test_the_seventh_program_goes_behind_all(self):
        loft = self.full_loft()
        self.refuses(loft, ("begin", "A", [], []), BadLoftName, name="A")
        self.refuses(loft, ("begin", "a", [], []), Taken, name="a")
        self.refuses(loft, ("begin", "new", [("go", 9)], LIST_WEBS), BadRow, number=0)
        self.refuses(loft, ("begin", "new", [("go", 0)], [TREE_WEB]), BadItem, place=0)

    def test_drop(self):
        for name in ("", "other", "Walk", "walk "):
            self.refuses(walk_loft(), ("drop", name), NoProgram, name=name)
        loft = walk_loft()
        loft.drop("walk")
        self.refuses(loft, ("drop", "walk"), NoProgram, name="walk")

    def test_no_program(self):
        for name in ("", "other", "WALK", "abcdefghi"):
            for deed in (
                ("put", name, 99, ("odd",)), ("right", name, -1, ()), ("take", name, -7), ("wish", name, [TREE_WEB]),
                ("put", name, 0, ("nil", "y")), ("right", name, 0, ("nil", "y")), ("take", name, 0),
                ("wish", name, None), ("wish", name, [SIX]),
            ):
                self.refuses(walk_loft(), deed, NoProgram, name=name)

    def test_no_number(self):
        for number in (-1, -4, -5, 5, 6, 100):
            for row in (("nil", "y"), ("odd",), (), ("nil", "a")):
                self.refuses(walk_loft(), ("put", "walk", number, row), NoNumber, number=number)
        for number in (-1, -4, -5, 4, 5, 100):
            for row in (("nil", "y"), ("odd",), ()):
                self.refuses(walk_loft(), ("right", "walk", number, row), NoNumber, number=number)
            self.refuses(walk_loft(), ("take", "walk", number), NoNumber, number=number)

    def test_bad_row(self):
        for row in (
            (), ("odd",), ("odd", "x"), ("nil",), ("nil", "x", "y"), ("nil", "X"), ("nil", ""), ("nil", "abcdefg"),
            ("read", "x", "y", "m"), ("write", "x", "y", "l"), ("clear", "x", "x"), ("go", -1), ("maybe", 6),
            ("go", 99),
        ):
            for at in range(5):
                self.refuses(walk_loft(), ("put", "walk", at, row), BadRow, number=at)
            for at in range(4):
                self.refuses(walk_loft(), ("right", "walk", at, row), BadRow, number=at)
        # The new row's jump is told by the new numbers: a jump to the new end is right behind put, not behind right.
        walk_loft().put("walk", 0, ("go", 5))
        self.refuses(walk_loft(), ("right", "walk", 0, ("go", 5)), BadRow, number=0)

    def test_too_many_rows_and_none(self):
        loft = Loft(LISTS)
        loft.begin("long", [("nil", "x")] * 23, webs("x=-"))
        loft.put("long", 23, ("go", 24))
        for row in (("nil", "x"), ("odd",)):
            for at in (0, 24):
                self.refuses(loft, ("put", "long", at, row), BadRow, number=-1)
            self.refuses(loft, ("put", "long", 25, row), NoNumber, number=25)
        loft.begin("short", [("nil", "x")], webs("x=-"))
        self.refuses(loft, ("take", "short", 0), BadRow, number=-1)
        self.refuses(loft, ("take", "short", 1), NoNumber, number=1)

    def test_too_many_names_in_the_rows(self):
        loft = Loft(LISTS)
        loft.begin("wide", [("nil", name) for name in "abcdef"], webs("a=-"))
        self.refuses(loft, ("put", "wide", 3, ("nil", "g")), BadRow, number=-2)
        self.refuses(loft, ("put", "wide", 3, ("copy", "g", "1")), BadRow, number=3)
        loft.right("wide", 3, ("nil", "g"))
        self.assertEqual(loft.program("wide").names(), list("abcefg"))

    def test_too_many_names_for_beginnings_or_wishes(self):
        loft = Loft(LISTS)
        loft.begin("five", [("nil", "x"), ("nil", "x")], [read_web("x=-"), FIVE])
        self.refuses(loft, ("put", "five", 0, ("copy", "y", "z")), Full)
        self.refuses(loft, ("right", "five", 0, ("copy", "y", "z")), Full)
        self.refuses(loft, ("put", "five", 0, ("copy", "y", "Z")), BadRow, number=0)
        loft.put("five", 0, ("nil", "y"))
        self.refuses(loft, ("put", "five", 0, ("nil", "z")), Full)
        self.refuses(loft, ("wish", "five", [read_web("x=-"), SIX]), Full)
        self.refuses(loft, ("wish", "five", [SIX, TREE_WEB]), BadItem, place=0)
        loft.wish("five", [FIVE])
        loft.begin("wished", [("nil", "x")], webs("x=-"))
        loft.wish("wished", [read_web("x=*"), FIVE])
        loft.put("wished", 1, ("nil", "y"))
        self.refuses(loft, ("put", "wished", 1, ("nil", "z")), Full)
        self.refuses(loft, ("right", "wished", 0, ("nil", "z")), Full)
        loft.wish("wished", None)
        loft.put("wished", 1, ("nil", "z"))

    def test_taking_a_row_out_leaves_fewer_names(self):
        loft = Loft(LISTS)
        loft.begin("p", [("nil", "x"), ("nil", "y"), ("nil", "z")], webs("x=-"))
        self.refuses(loft, ("wish", "p", [read_web("a=- b=- c=- d=-")]), Full)
        loft.take("p", 2)
        loft.wish("p", [read_web("a=- b=- c=- d=-")])
        self.refuses(loft, ("put", "p", 2, ("nil", "z")), Full)

    def test_wish(self):
        loft = walk_loft()
        self.refuses(loft, ("wish", "walk", [DEEP, TREE_WEB]), BadItem, place=2)
        self.refuses(loft, ("wish", "walk", LIST_WEBS + [TREE_WEB, DEEP]), BadItem, place=0)
        self.refuses(loft, ("wish", "walk", [SIX, DEEP]), BadItem, place=2)
        self.refuses(loft, ("wish", "walk", LIST_WEBS + [SIX]), Full)

    def test_rule(self):
        loft = walk_loft()
        wrong = ("z", "-", ())
        for shape in ("", "tree", "cell", "List"):
            self.refuses(loft, ("rule", shape, 9, wrong), NoShape, name=shape)
            self.refuses(loft, ("rule", shape, 0, ("-", "-", ())), NoShape, name=shape)
        for number in (-1, -2, -3, 2, 3, 50):
            self.refuses(loft, ("rule", "list", number, wrong), NoNumber, number=number)
            self.refuses(loft, ("rule", "list", number, ("-", "-", ())), NoNumber, number=number)
        for rule in (
            wrong, ("b", "-", ()), ("p", "-", ()), ("-", "-", (("list", ("p",)),)), ("p", "-", (("tree", ("p",)),)),
            ("p", "-", (("part", ("p",)),)), ("p", "p", (("list", ("p",)), ("list", ("p",)))),
            ("p", "-", (("list", ()),)),
        ):
            for number in (0, 1):
                self.refuses(loft, ("rule", "list", number, rule), BadRule, number=number)
        for rule in (("-", "-", ()), ("p", "-", (("part", ("p", "-")),)), ("c", "b", ())):
            self.refuses(loft, ("rule", "part", 1, rule), BadRule, number=1)

    def test_a_rule_that_a_kept_shape_needs(self):
        endless = ("-", "p", (("list", ("p",)),))
        self.refuses(walk_loft(), ("rule", "list", 0, endless), Groundless, name="list")
        both = Loft(Book([
            ("top", 1, [("p", "-", (("list", ("p",)),))]), LIST,
            ("other", 1, [("p", "-", (("list", ("p",)),)), ("a", "a", ())]),
        ]))
        self.refuses(both, ("rule", "list", 0, endless), Groundless, name="top")
        self.refuses(both, ("rule", "list", 0, ("-", "p", (("top", ("p",)),))), Groundless, name="top")
        self.refuses(both, ("rule", "list", 0, ("-", "p", (("top", ("p", "a")),))), BadRule, number=0)
        both.rule("list", 0, ("-", "p", (("other", ("p",)),)))
        self.assertEqual([both.book().height(name) for name in ("top", "list", "other")], [3, 2, 1])
        self.refuses(both, ("rule", "other", 1, endless), Groundless, name="top")

    def test_asking_for_no_program(self):
        loft = walk_loft()
        loft.begin("gone", [("go", 0)], LIST_WEBS)
        loft.drop("gone")
        for name in ("", "gone", "Walk"):
            for asked in (loft.program, loft.starts, loft.wishes, loft.judged):
                with self.assertRaises(NoProgram) as caught:
                    asked(name)
                self.assertEqual(caught.exception.name, name)
            with self.assertRaises(NoProgram):
                loft.judged(name, cells=0)


class TheAskersOwn(unittest.TestCase):
    def test_what_is_handed_in_is_not_kept_to_be_changed(self):
        loft = Loft(LISTS)
        rows, starts, wishes = WALK.row_rows(), list(LIST_WEBS), list(LIST_WEBS)
        loft.begin("walk", rows, starts)
        rows.clear()
        starts.append(TREE_WEB)
        loft.wish("walk", wishes)
        wishes.clear()
        self.assertEqual(loft.program("walk"), WALK)
        self.assertEqual((loft.starts("walk"), loft.wishes("walk")), (LIST_WEBS, LIST_WEBS))
        rows, starts, wishes = LET_GO.row_rows(), list(LIST_WEBS), [LIST_WEBS[1]]
        deeds = [("begin", "free", rows, starts), ("wish", "free", wishes), ("put", "free", 6, ("nil", "z"))]
        told = list(deeds)
        loft.do_all(deeds)
        self.assertEqual(deeds, told)
        for changed in (rows, starts, wishes, deeds):
            changed.clear()
        self.assertEqual(len(loft.program("free")), 7)
        self.assertEqual((loft.starts("free"), loft.wishes("free")), (LIST_WEBS, [LIST_WEBS[1]]))
        # Deeds that are done again do not come of the lists, either.
        for _ in range(3):
            loft.undo()
        for _ in range(3):
            loft.redo()
        self.assertEqual(len(loft.program("free")), 7)
        self.assertEqual((loft.starts("free"), loft.wishes("free")), (LIST_WEBS, [LIST_WEBS[1]]))

    def test_what_is_handed_in_is_not_changed(self):
        loft = Loft(LISTS)
        shapes = LISTS.shape_rows()
        rows, starts, wishes = list(JUMPS), webs("x=-"), list(LIST_WEBS)
        loft.begin("j", rows, starts)
        loft.wish("j", wishes)
        for deed in (("put", "j", 0, ("nil", "z")), ("take", "j", 3), ("right", "j", 2, ("go", 0))):
            loft.do_all([deed])
        loft.rule("list", 1, ("p", "-", (("list", ("p",)),)))
        self.assertEqual((rows, starts, wishes), (JUMPS, webs("x=-"), LIST_WEBS))
        self.assertEqual(LISTS.shape_rows(), shapes)

    def test_what_is_told_is_the_askers_own(self):
        loft = walk_loft()
        loft.wish("walk", LIST_WEBS)
        before = seen(loft)
        judged = loft.judged("walk")
        table = list(judged[1])
        for told in (loft.names(), loft.starts("walk"), loft.wishes("walk"), loft.program("walk").row_rows(), judged[1],
                     loft.program("walk").names(), loft.book().shape_rows(), loft.book().shape_rows()[0][2]):
            told.clear()
            self.assertEqual(seen(loft), before)
        self.assertEqual(loft.judged("walk"), ("kept", table))


if __name__ == "__main__":
    unittest.main()
