"""Points 27 and 28: deeds taken back and done again, several at once, judged, twins, and lofts that are equal."""

import random
import unittest

from osier.books import Book
from osier.errors import (
    BadItem, BadLoftName, BadRow, BadRule, Full, Groundless, Missing, NoNumber, NoProgram, NoShape, Nothing, OsierError,
    Taken,
)
from osier.judging import judge
from osier.lofts import Loft
from osier.programs import Program, ready
from osier.webs import read_web
from samples import (
    BOOK, LET_GO, LIST_WEBS, LISTS, SIX, TREE_WEB, WALK, seen, some_row, some_rule, some_web, webs,
)
from told_programs import BROKEN, KEPT, UNSURE

STEP_LEFT = ("p", "-", (("list", ("p",)),))
# One deed of each kind, in an order in which all are done.
DEEDS = [
    ("begin", "walk", tuple(WALK.row_rows()), tuple(LIST_WEBS)),
    ("wish", "walk", tuple(LIST_WEBS)),
    ("put", "walk", 2, ("maybe", 5)),
    ("right", "walk", 0, ("copy", "y", "x")),
    ("take", "walk", 2),
    ("rule", "list", 1, STEP_LEFT),
    ("begin", "free", tuple(LET_GO.row_rows()), tuple(LIST_WEBS[:1])),
    ("wish", "walk", None),
    ("drop", "walk"),
]


def told_deed(deed, lossy=False):
    """The deed as undo and redo tell it."""
    return (*deed, lossy) if deed[0] == "begin" else deed


def states():
    """A loft for all that stands ahead of and behind each of the deeds, made without undo."""
    found = []
    for many in range(len(DEEDS) + 1):
        loft = Loft(LISTS)
        for word, *places in DEEDS[:many]:
            getattr(loft, word)(*places)
        found.append(loft)
    return found


class UndoAndRedo(unittest.TestCase):
    def test_nothing(self):
        for loft in (Loft(LISTS), Loft(Book([]))):
            for asked in (loft.undo, loft.redo):
                with self.assertRaises(Nothing):
                    asked()
        loft = states()[-1]
        with self.assertRaises(Nothing):
            loft.redo()

    def test_back_to_nothing_and_again(self):
        wanted = states()
        for loft in (states()[-1], Loft(LISTS)):
            if len(loft) == 0:
                loft.do_all(DEEDS)
            for _ in range(2):
                for at in range(len(DEEDS) - 1, -1, -1):
                    self.assertEqual(loft.undo(), told_deed(DEEDS[at]))
                    self.assertEqual(seen(loft), seen(wanted[at]))
                    self.assertEqual(loft, wanted[at])
                with self.assertRaises(Nothing):
                    loft.undo()
                for at, deed in enumerate(DEEDS):
                    self.assertEqual(loft.redo(), told_deed(deed))
                    self.assertEqual(seen(loft), seen(wanted[at + 1]))
                with self.assertRaises(Nothing):
                    loft.redo()

    def test_a_told_deed_has_tuples(self):
        loft = Loft(LISTS)
        for lossy in (True, False):
            loft.begin("one", WALK.row_rows(), list(LIST_WEBS), lossy=lossy)
            told = loft.undo()
            self.assertEqual(told, ("begin", "one", tuple(WALK.row_rows()), tuple(LIST_WEBS), lossy))
            self.assertIs(told[4], lossy)
            self.assertEqual([type(part) for part in told], [str, str, tuple, tuple, bool])
            self.assertTrue(all(type(row) is tuple for row in told[2]))
            self.assertEqual(loft.redo(), told)
            loft.wish("one", list(LIST_WEBS))
            self.assertEqual(loft.undo(), ("wish", "one", tuple(LIST_WEBS)))
            loft.wish("one", None)
            self.assertEqual(loft.undo(), ("wish", "one", None))
            loft.drop("one")

    def test_lossy_comes_back(self):
        loft = Loft(LISTS)
        loft.begin("one", WALK.row_rows(), LIST_WEBS, lossy=True)
        loft.drop("one")
        loft.undo()
        self.assertIs(loft.program("one").lossy, True)
        loft.undo()
        loft.redo()
        self.assertEqual(loft.program("one"), Program(WALK.row_rows(), lossy=True))

    def test_jumps_come_back(self):
        loft = Loft(LISTS)
        rows = [("maybe", 2), ("go", 3), ("go", 2)]
        loft.begin("one", rows, LIST_WEBS)
        for deed in (
            ("put", "one", 2, ("go", 4)), ("take", "one", 2), ("put", "one", 3, ("go", 0)), ("take", "one", 1),
        ):
            loft.do_all([deed])
            after = loft.program("one").row_rows()
            self.assertEqual(loft.undo(), deed)
            self.assertEqual(loft.program("one").row_rows(), rows)
            self.assertEqual(loft.redo(), deed)
            self.assertEqual(loft.program("one").row_rows(), after)
            loft.undo()

    def test_a_new_deed_forgets_what_could_be_done_again(self):
        for many in range(1, len(DEEDS) + 1):
            loft = states()[-1]
            for _ in range(many):
                loft.undo()
            loft.begin("new", [("go", 0)], LIST_WEBS)
            with self.assertRaises(Nothing):
                loft.redo()
            self.assertEqual(loft.undo()[:2], ("begin", "new"))
            self.assertEqual(loft.redo()[:2], ("begin", "new"))

    def test_a_deed_that_makes_no_difference_is_one(self):
        loft = Loft(LISTS)
        loft.begin("one", [("go", 0)], LIST_WEBS)
        loft.wish("one", None)
        loft.right("one", 0, ("go", 0))
        loft.rule("list", 0, ("-", "-", ()))
        for word in ("rule", "right", "wish", "begin"):
            self.assertEqual(loft.undo()[0], word)

    def test_a_refused_deed_forgets_nothing(self):
        loft = states()[-1]
        for _ in range(3):
            loft.undo()
        before = seen(loft)
        for deed, kind in (
            (("begin", "A", [], []), BadLoftName), (("begin", "walk", [], []), Taken),
            (("begin", "new", [], []), BadRow),
            (("begin", "new", [("go", 0)], [TREE_WEB]), BadItem), (("begin", "new", [("nil", "x")], [SIX]), Full),
            (("drop", "new"), NoProgram), (("put", "walk", -1, ("go", 0)), NoNumber), (("take", "walk", 4), NoNumber),
            (("right", "walk", 0, ("odd",)), BadRow), (("wish", "walk", [SIX]), Full),
            (("rule", "tree", 0, ("-", "-", ())), NoShape),
            (("rule", "list", 0, ("z", "-", ())), BadRule), (("rule", "list", 0, STEP_LEFT), Groundless),
        ):
            with self.assertRaises(kind):
                loft.do_all([deed])
            self.assertEqual(seen(loft), before)
        for deed in DEEDS[-3:]:
            self.assertEqual(loft.redo(), told_deed(deed))
        for deed in DEEDS[::-1]:
            self.assertEqual(loft.undo(), told_deed(deed))


class DoAll(unittest.TestCase):
    def test_all(self):
        loft = Loft(LISTS)
        self.assertIsNone(loft.do_all(DEEDS))
        self.assertEqual(loft, states()[-1])
        loft = Loft(LISTS)
        loft.do_all(tuple(DEEDS[:3]))
        loft.do_all([(word, *places) for word, *places in DEEDS[3:]])
        self.assertEqual(loft, states()[-1])
        self.assertEqual(loft.undo(), DEEDS[-1])

    def test_begin_without_lossy(self):
        loft = Loft(LISTS)
        loft.do_all([("begin", "one", WALK.row_rows(), list(LIST_WEBS))])
        self.assertIs(loft.program("one").lossy, False)
        self.assertEqual(loft.undo(), ("begin", "one", tuple(WALK.row_rows()), tuple(LIST_WEBS), False))

    def test_none_at_all(self):
        loft = states()[-1]
        for _ in range(4):
            loft.undo()
        before = seen(loft)
        for deeds in ([], ()):
            self.assertIsNone(loft.do_all(deeds))
            self.assertEqual(seen(loft), before)
        for deed in DEEDS[-4:]:
            self.assertEqual(loft.redo(), told_deed(deed))
        loft = Loft(LISTS)
        loft.do_all([])
        with self.assertRaises(Nothing):
            loft.undo()

    def test_none_where_one_is_refused(self):
        refused = [
            (("drop", "none"), NoProgram), (("begin", "first", [("odd",)], []), Taken),
            (("begin", "", [], []), BadLoftName),
            (("begin", "new", [("odd",)], []), BadRow), (("rule", "list", 7, STEP_LEFT), NoNumber),
        ]
        for deed, kind in refused:
            for at in range(len(DEEDS) + 1):
                loft = Loft(LISTS)
                loft.begin("first", [("go", 0)], LIST_WEBS)
                loft.begin("second", [("go", 0)], LIST_WEBS)
                loft.undo()
                before = seen(loft)
                deeds = DEEDS[:at] + [deed] + DEEDS[at:]
                with self.assertRaises(kind):
                    loft.do_all(deeds)
                self.assertEqual(seen(loft), before)
                # What could be done again, or taken back, can be still.
                self.assertEqual(loft.redo()[:2], ("begin", "second"))
                self.assertEqual([loft.undo()[1], loft.undo()[1]], ["second", "first"])
                with self.assertRaises(Nothing):
                    loft.undo()

    def test_a_deed_is_refused_by_what_the_ones_ahead_made(self):
        loft = Loft(LISTS)
        one = ("begin", "one", [("go", 0)], LIST_WEBS)
        with self.assertRaises(Taken):
            loft.do_all([one, one])
        self.assertEqual(len(loft), 0)
        loft.do_all([one, ("drop", "one"), one])
        with self.assertRaises(NoProgram):
            loft.do_all([("drop", "one"), ("take", "one", 0)])
        self.assertEqual(loft.names(), ["one"])
        with self.assertRaises(Full):
            loft.do_all([("begin", name, [("go", 0)], LIST_WEBS) for name in "abcdef"])
        self.assertEqual(loft.names(), ["one"])

    def test_taken_back_one_by_one(self):
        loft = Loft(LISTS)
        loft.begin("one", [("go", 0)], LIST_WEBS)
        loft.do_all([("put", "one", 0, ("nil", "x")), ("put", "one", 0, ("nil", "y")), ("take", "one", 2)])
        rows = []
        for _ in range(3):
            rows.append(loft.program("one").row_rows())
            loft.undo()
        self.assertEqual(rows, [
            [("nil", "y"), ("nil", "x")], [("nil", "y"), ("nil", "x"), ("go", 2)], [("nil", "x"), ("go", 1)],
        ])
        self.assertEqual(loft.program("one").row_rows(), [("go", 0)])


class Judged(unittest.TestCase):
    def told(self, loft, name, cells):
        return judge(loft.book(), loft.program(name), loft.starts(name), wishes=loft.wishes(name), cells=cells)

    def agrees(self, loft):
        for cells in (3, 0, 2, 3, 1, 4):
            for name in loft.names():
                self.assertEqual(loft.judged(name, cells=cells), self.told(loft, name, cells))
                self.assertEqual(loft.judged(name), self.told(loft, name, 3))

    def test_what_is_told_of_the_program(self):
        cases = list(KEPT.values()) + [told[:4] for told in list(BROKEN.values()) + list(UNSURE.values())]
        for book, program, starts, wishes in cases:
            loft = Loft(book)
            loft.begin("one", program.row_rows(), starts, lossy=program.lossy)
            self.assertEqual(loft.judged("one"), judge(book, program, starts))
            loft.wish("one", wishes)
            self.agrees(loft)

    def test_around_each_deed(self):
        loft = Loft(LISTS)
        for deed in DEEDS:
            self.agrees(loft)
            loft.do_all([deed])
            self.agrees(loft)
        for _ in DEEDS:
            loft.undo()
            self.agrees(loft)
        for _ in DEEDS:
            loft.redo()
            self.agrees(loft)

    def test_a_deed_tells_otherwise(self):
        loft = Loft(LISTS)
        loft.begin("walk", WALK.row_rows(), LIST_WEBS)
        words = [loft.judged("walk")[0]]
        for deed in (
            ("wish", "walk", webs("x=-")), ("wish", "walk", None), ("take", "walk", 1),
            ("put", "walk", 1, ("none", "y", 4)), ("right", "walk", 3, ("go", 1)),
            ("right", "walk", 2, ("read", "y", "y", "l")), ("rule", "list", 1, STEP_LEFT),
            ("right", "walk", 0, ("nil", "x")),
        ):
            loft.do_all([deed])
            words.append(loft.judged("walk")[0])
        self.assertEqual(words, ["kept", "broken", "kept", "broken", "broken", "kept", "kept", "unsure", "broken"])
        again = []
        for _ in words:
            again.append(loft.judged("walk")[0])
            loft.undo()
        self.assertEqual(again, words[::-1])

    def test_each_asking_is_as_the_first_one(self):
        loft = Loft(LISTS)
        loft.begin("walk", WALK.row_rows(), LIST_WEBS)
        loft.begin("lose", [("nil", "x")], LIST_WEBS)
        for name in ("walk", "lose"):
            first = loft.judged(name)
            before = list(first[1])
            first[1].clear()
            self.assertEqual(loft.judged(name)[1], before)
            self.assertEqual(loft.judged(name, cells=0)[0], {"walk": "kept", "lose": "unsure"}[name])
            self.assertEqual(loft.judged(name)[1], before)


class Twins(unittest.TestCase):
    def test_a_twin_stands_alike(self):
        for many in range(len(DEEDS) + 1):
            loft = states()[-1]
            for _ in range(many):
                loft.undo()
            other = loft.twin()
            self.assertIsInstance(other, Loft)
            self.assertEqual(other, loft)
            self.assertEqual(seen(other), seen(loft))
            for deed in DEEDS[len(DEEDS) - many:]:
                self.assertEqual(other.redo(), told_deed(deed))
            for deed in DEEDS[::-1]:
                self.assertEqual(other.undo(), told_deed(deed))
            with self.assertRaises(Nothing):
                other.undo()

    def test_each_goes_its_own_way(self):
        for changes_twin in (False, True):
            loft = states()[-1]
            loft.undo()
            loft.undo()
            twin = loft.twin()
            before = seen(loft)
            one, other = (twin, loft) if changes_twin else (loft, twin)
            one.begin("new", [("go", 0)], LIST_WEBS)
            one.put("walk", 0, ("nil", "z"))
            one.rule("list", 1, ("a", "p", (("list", ("p",)),)))
            self.assertEqual(seen(other), before)
            self.assertFalse(one == other)
            self.assertEqual(other.redo(), DEEDS[-2])
            self.assertEqual(other.redo(), DEEDS[-1])
            with self.assertRaises(Nothing):
                one.redo()
            self.assertEqual([one.undo()[0] for _ in range(3)], ["rule", "put", "begin"])
            self.assertEqual(seen(one), before)
            for _ in range(len(DEEDS)):
                other.undo()
            self.assertEqual(seen(one), before)
            self.assertEqual(one.undo(), told_deed(DEEDS[-3]))


    def test_what_one_does_again_the_other_one_still_can(self):
        loft = states()[-1]
        for _ in range(3):
            loft.undo()
        twin = loft.twin()
        for _ in range(3):
            twin.redo()
        twin.undo()
        for deed in DEEDS[-3:]:
            self.assertEqual(loft.redo(), told_deed(deed))
        self.assertEqual(twin.redo(), DEEDS[-1])
        for one in (loft, twin):
            with self.assertRaises(Nothing):
                one.redo()


class Equality(unittest.TestCase):
    def loft(self, deeds=(), book=LISTS):
        loft = Loft(book)
        loft.do_all([
            ("begin", "one", WALK.row_rows(), LIST_WEBS), ("begin", "two", LET_GO.row_rows(), LIST_WEBS),
            ("wish", "one", LIST_WEBS),
        ])
        loft.do_all(deeds)
        return loft

    def test_equal(self):
        self.assertTrue(Loft(LISTS) == Loft(LISTS))
        self.assertTrue(self.loft() == self.loft())
        self.assertFalse(self.loft() != self.loft())
        self.assertTrue(Loft(Book([])) == Loft(Book([])))

    def test_unlike_in_one_thing(self):
        loft = self.loft()
        others = [
            self.loft([deed]) for deed in (
                ("right", "one", 0, ("copy", "y", "y")), ("put", "two", 6, ("nil", "y")), ("take", "two", 4),
                ("wish", "one", None), ("wish", "one", LIST_WEBS[::-1]), ("wish", "one", LIST_WEBS[:1]),
                ("wish", "two", LIST_WEBS), ("rule", "list", 1, STEP_LEFT), ("rule", "part", 0, ("b", "-", ())),
                ("drop", "one"), ("begin", "three", [("go", 0)], LIST_WEBS),
            )
        ]
        begins = [
            (("drop", "two"), ("begin", "two", LET_GO.row_rows(), LIST_WEBS[::-1])),
            (("drop", "two"), ("begin", "two", LET_GO.row_rows(), LIST_WEBS + LIST_WEBS[:1])),
            (("drop", "two"), ("begin", "too", LET_GO.row_rows(), LIST_WEBS)),
        ]
        others.extend(self.loft(deeds) for deeds in begins)
        lossy = self.loft([("drop", "two")])
        lossy.begin("two", LET_GO.row_rows(), LIST_WEBS, lossy=True)
        others += [lossy, self.loft(book=Book(LISTS.shape_rows()[::-1])), self.loft(book=BOOK), Loft(LISTS)]
        for at, other in enumerate(others):
            self.assertFalse(loft == other, at)
            self.assertFalse(other == loft, at)
            self.assertTrue(loft != other, at)

    def test_the_way_to_it_counts_for_nothing(self):
        loft = self.loft()
        other = Loft(LISTS)
        other.begin("two", LET_GO.row_rows(), LIST_WEBS)
        other.begin("three", LET_GO.row_rows(), LIST_WEBS)
        other.begin("one", [("go", 0)] + WALK.row_rows(), LIST_WEBS)
        other.wish("one", LIST_WEBS)
        other.drop("three")
        other.right("one", 0, ("copy", "y", "x"))
        other.take("one", 1)
        self.assertFalse(loft == other)
        other.drop("one")
        other.begin("one", WALK.row_rows(), LIST_WEBS)
        self.assertFalse(loft == other)
        other.wish("one", LIST_WEBS)
        self.assertTrue(loft == other)
        other.undo()
        self.assertFalse(loft == other)
        other.redo()
        self.assertTrue(loft == other)
        self.assertEqual((len(loft), len(other)), (2, 2))

    def test_something_that_is_no_loft(self):
        loft = self.loft()
        for other in (None, 0, "", [], {}, (), LISTS, WALK, read_web("x=-"), loft.book(), object()):
            self.assertFalse(loft == other)
            self.assertTrue(loft != other)


class PlainLoft:
    """What points 25 to 27 tell, kept as whole copies."""

    def __init__(self, book):
        self.now = (book, {})
        self.back, self.forth = [], []

    def done(self, deed):
        self.back.append((deed, self.now))
        self.forth = []
        self.now = self.behind(*deed)

    def behind(self, word, name, *places):
        book, programs = self.now
        programs = dict(programs)
        if word == "begin":
            programs[name] = (list(places[0]), places[2], list(places[1]), None)
        elif word == "drop":
            del programs[name]
        elif word == "wish":
            programs[name] = (*programs[name][:3], places[0])
        elif word == "rule":
            shapes = book.shape_rows()
            for shape, _, rules in shapes:
                if shape == name:
                    rules[places[0]] = places[1]
            book = Book(shapes)
        else:
            programs[name] = (self.changed(word, programs[name][0], *places), *programs[name][1:])
        return (book, programs)

    def changed(self, word, rows, number, row=None):
        """Jumps lead to a mark that goes along with a row."""
        marks = list(range(len(rows) + 1))
        rows = [(mark, old) for mark, old in zip(marks, rows)]
        gone = None
        if word == "put":
            rows.insert(number, (None, row))
        elif word == "right":
            rows[number] = (number, row)
        else:
            gone = rows.pop(number)[0]
        order = [mark for mark, _ in rows] + [marks[-1]]
        out = []
        for at, (mark, old) in enumerate(rows):
            mine = mark is None or (word == "right" and at == number)
            if isinstance(old[-1], int) and not mine:
                led = old[-1] + 1 if old[-1] == gone else old[-1]
                old = (*old[:-1], order.index(led))
            out.append(old)
        return out


class ByChance(unittest.TestCase):
    def some_deed(self, chance, loft):
        name = chance.choice(loft.names() + ["new", "other", "more"])
        many = len(loft.program(name)) if name in loft.names() else 3
        word = chance.choice(["begin", "begin", "drop", "put", "put", "right", "take", "take", "wish", "rule"])
        row = some_row(chance, ["x", "y", "z"], many + 1)
        if word == "begin":
            end = chance.randint(1, 6)
            rows = tuple(some_row(chance, ["x", "y", "z"], end) for _ in range(end))
            starts = tuple(some_web(chance, BOOK, chance.randint(0, 2)) for _ in range(chance.randint(1, 3)))
            return (word, name, rows, starts, chance.random() < 0.5)
        if word in ("put", "right"):
            return (word, name, chance.randint(-1, many + 1), row)
        if word == "take":
            return (word, name, chance.randint(-1, many))
        if word == "wish":
            some = tuple(some_web(chance, BOOK, 2) for _ in range(chance.randint(1, 3)))
            return (word, name, chance.choice([None, some]))
        if word == "rule":
            counts = [(shape, points) for shape, points, _ in BOOK.shape_rows()]
            shape, points = chance.choice(counts)
            return (word, shape, chance.randint(-1, 3), some_rule(chance, points, counts))
        return (word, name)

    def do(self, loft, deed):
        if deed[0] == "begin":
            loft.begin(*deed[1:4], lossy=deed[4])
        else:
            getattr(loft, deed[0])(*deed[1:])

    def same(self, loft, plain):
        book, programs = plain.now
        self.assertEqual(loft.book(), book)
        self.assertEqual(loft.names(), sorted(programs))
        for name, (rows, lossy, starts, wishes) in programs.items():
            self.assertEqual(loft.program(name), Program(rows, lossy=lossy))
            self.assertEqual(loft.starts(name), starts)
            self.assertEqual(loft.wishes(name), None if wishes is None else list(wishes))
            for web in starts + list(wishes or ()):
                ready(loft.program(name), web)

    def step(self, chance, loft, plain):
        if chance.random() < 0.3:
            back = chance.random() < 0.6
            ways = plain.back if back else plain.forth
            if not ways:
                with self.assertRaises(Nothing):
                    loft.undo() if back else loft.redo()
                return
            deed, state = ways.pop()
            (plain.forth if back else plain.back).append((deed, plain.now))
            plain.now = state
            self.assertEqual(loft.undo() if back else loft.redo(), deed)
            return
        deed = self.some_deed(chance, loft)
        try:
            self.do(loft, deed)
        except (OsierError, Missing, Taken) as refusal:
            self.refusals.add(type(refusal).__name__)
            return
        plain.done(deed)

    def test_many_deeds(self):
        self.refusals = set()
        for seed in range(40):
            chance = random.Random(seed)
            loft, plain = Loft(BOOK), PlainLoft(BOOK)
            for _ in range(60):
                self.step(chance, loft, plain)
                self.same(loft, plain)
        self.assertLessEqual(
            {"Taken", "NoProgram", "NoNumber", "BadRow", "Groundless"}, self.refusals)


if __name__ == "__main__":
    unittest.main()
