"""Point 29: a loft as a page, and pages read."""

import random
import re
import unittest

from osier.books import Book
from osier.errors import BadPage, Missing, Nothing, OsierError, Taken
from osier.lofts import Loft
from osier.pages import read_page, write_page
from osier.webs import read_web
from samples import (
    BOOK, LET_GO, LIST_WEBS, LISTS, SHAPES, SIX, TREES, WALK, chain, seen, some_book, some_row, some_web, webs,
)
from told_programs import BROKEN, KEPT

LISTS_PAGE = "shape list 1 -,-;-,p,list.p\nshape part 2 -,b;-,p,part.p.b\n"
WALK_PAGE = LISTS_PAGE + (
    "program walk\nrow copy y x\nrow none y 4\nrow read y y r\nrow go 1\n"
    "from x=1 1:list()\nfrom x=-\nto x=1 1:list()\nto x=-\n"
)
EVERY_ROW = [
    ("new", "x"), ("free", "x"), ("copy", "x", "abcdef"), ("nil", "x"), ("read", "x", "y", "l"),
    ("write", "x", "r", "y"), ("clear", "x", "l"), ("same", "x", "y", 10), ("none", "x", 11), ("maybe", 0), ("go", 3),
]
EVERY_LINE = [
    "row new x", "row free x", "row copy x abcdef", "row nil x", "row read x y l", "row write x r y", "row clear x l",
    "row same x y 10", "row none x 11", "row maybe 0", "row go 3",
]


def walk_loft():
    loft = Loft(LISTS)
    loft.begin("walk", WALK.row_rows(), LIST_WEBS)
    loft.wish("walk", LIST_WEBS)
    return loft


def full_loft():
    """Six programs, some lossy, that came in another order than that of their names."""
    loft = Loft(Book(SHAPES))
    loft.begin("walk", WALK.row_rows(), LIST_WEBS)
    loft.begin("free", LET_GO.row_rows(), LIST_WEBS[:1], lossy=True)
    loft.begin("z", EVERY_ROW, webs("empty", "x=* y=1 1:way(-,2) 2:back(1)", "b=1 x=2 1:ring() 2:cell(1,*)"))
    loft.begin("a", [("go", 0)], [SIX] * 6)
    loft.begin("aa", [("nil", "x")] * 24, [chain(200)], lossy=True)
    loft.begin("abcdefgh", [("nil", name) for name in "uvwxyz"], webs("x=-"))
    loft.wish("walk", LIST_WEBS)
    loft.wish("a", [SIX] * 6)
    loft.wish("abcdefgh", webs("u=1 1:tree()"))
    return loft


def line_plainly(text):
    """The line that a refusal tells."""
    lines = text.split("\n")
    if lines[-1] == "":
        lines.pop()
    for number, line in enumerate(lines, start=1):
        if not re.match("(shape|program|lossy|row|from|to) ", line):
            return number
    return 0


def loft_plainly(text):
    """The loft of a page, or None: read by patterns, made by deeds."""
    page = re.fullmatch(
        r"((?:shape [^\n]*\n)*)"
        r"((?:(?:program|lossy) [a-z]+\n(?:row [^\n]+\n)+(?:from [^\n]+\n){1,6}(?:to [^\n]+\n){0,6})*)",
        text)
    if page is None:
        return None
    try:
        return loft_of_parts(page[1], page[2])
    except (OsierError, Missing, Taken):
        return None


def loft_of_parts(shapes, programs):
    told = []
    for line in shapes.split("\n")[:-1]:
        found = re.fullmatch(r"shape ([a-z]+) ([1-3]) (.*)", line)
        if found is None:
            return None
        rules = []
        for text in found[3].split(";"):
            if not re.fullmatch(r"[a-z-],[a-z-](,[a-z]+(\.[a-z-])+)*", text):
                return None
            left, right, *inner = text.split(",")
            rules.append((left, right, tuple((part.split(".")[0], tuple(part.split(".")[1:])) for part in inner)))
        told.append((found[1], int(found[2]), rules))
    loft = Loft(Book(told))
    names = []
    for part in re.findall(r"(?:program|lossy) [^\n]*\n(?:(?:row|from|to) [^\n]*\n)*", programs):
        lines = part.split("\n")[:-1]
        names.append(lines[0].split(" ")[1])
        rows = [tuple(int(place) if re.fullmatch("0|[1-9][0-9]?", place) else place for place in line.split(" ")[1:])
                for line in lines if line.startswith("row ")]
        starts = [read_web(line[5:]) for line in lines if line.startswith("from ")]
        wishes = [read_web(line[3:]) for line in lines if line.startswith("to ")]
        loft.begin(names[-1], rows, starts, lossy=lines[0].startswith("lossy"))
        loft.wish(names[-1], wishes or None)
    return loft if names == sorted(names) else None


class Written(unittest.TestCase):
    def test_line_by_line(self):
        self.assertEqual(write_page(walk_loft()), WALK_PAGE)

    def test_no_programs_and_no_shapes(self):
        self.assertEqual(write_page(Loft(Book([]))), "")
        self.assertEqual(write_page(Loft(LISTS)), LISTS_PAGE)
        loft = Loft(Book([]))
        loft.begin("one", [("nil", "x")], webs("empty", "x=1 1:cell(*,1)"))
        self.assertEqual(write_page(loft), "program one\nrow nil x\nfrom empty\nfrom x=1 1:cell(*,1)\n")

    def test_every_row(self):
        loft = Loft(Book([]))
        loft.begin("one", EVERY_ROW, webs("x=-"))
        self.assertEqual(write_page(loft), "\n".join(["program one"] + EVERY_LINE + ["from x=-", ""]))

    def test_shapes_and_rules(self):
        self.assertEqual(write_page(Loft(Book(SHAPES))).split("\n"), [
            "shape list 1 -,-;-,p,list.p",
            "shape tree 1 -,-;p,-,tree.p;-,p,tree.p;p,q,tree.p,tree.q",
            "shape part 2 -,b;-,p,part.p.b",
            "shape back 2 b,-;b,p,back.p.a",
            "shape way 3 b,c;b,p,way.p.a.c",
            "shape ring 1 -,a;-,p,part.p.a",
            "",
        ])
        odd = Book([("odd", 3, [("q", "p", (("odd", ("q", "-", "p")), ("odd", ("p", "b", "c")))), ("b", "c", ())])])
        self.assertEqual(write_page(Loft(odd)), "shape odd 3 q,p,odd.q.-.p,odd.p.b.c;b,c\n")

    def test_lossy_programs_by_name(self):
        loft = Loft(Book([]))
        for name, lossy in (("c", False), ("aa", True), ("b", True), ("a", False)):
            loft.begin(name, [("go", 1)], webs("x=-"), lossy=lossy)
        loft.wish("aa", webs("x=-", "x=*"))
        rest = "row go 1\nfrom x=-\n"
        self.assertEqual(
            write_page(loft),
            f"program a\n{rest}lossy aa\n{rest}to x=-\nto x=*\nlossy b\n{rest}program c\n{rest}")

    def test_writing_changes_nothing(self):
        loft = full_loft()
        before = seen(loft)
        page = write_page(loft)
        self.assertEqual(write_page(loft), page)
        self.assertEqual(seen(loft), before)
        self.assertEqual(loft.undo()[0], "wish")


class Read(unittest.TestCase):
    def same(self, loft):
        page = write_page(loft)
        self.assertTrue(page == "" or page.endswith("\n"))
        again = read_page(page)
        self.assertIsInstance(again, Loft)
        self.assertEqual(again, loft)
        self.assertEqual(seen(again), seen(loft))
        self.assertEqual(write_page(again), page)
        for asked in (again.undo, again.redo):
            with self.assertRaises(Nothing):
                asked()
        return again

    def test_an_equal_loft(self):
        for loft in (Loft(Book([])), Loft(LISTS), Loft(BOOK), walk_loft(), full_loft()):
            self.same(loft)
        self.assertEqual(read_page(""), Loft(Book([])))
        self.assertEqual(read_page(WALK_PAGE), walk_loft())

    def test_told_programs(self):
        for book, program, starts, wishes in list(KEPT.values()) + [told[:4] for told in BROKEN.values()]:
            loft = Loft(book)
            loft.begin("one", program.row_rows(), starts, lossy=program.lossy)
            loft.wish("one", wishes)
            self.assertEqual(self.same(loft).judged("one"), loft.judged("one"))

    def test_a_read_loft_goes_on(self):
        loft = self.same(full_loft())
        loft.drop("a")
        loft.begin("b", [("go", 0)], LIST_WEBS)
        loft.rule("list", 1, ("p", "-", (("list", ("p",)),)))
        self.assertEqual([loft.undo()[0] for _ in range(3)], ["rule", "begin", "drop"])
        self.assertEqual(loft, full_loft())

    def test_by_chance(self):
        chance = random.Random(29)
        for _ in range(150):
            book = some_book(chance)
            loft = Loft(book)
            for name in chance.sample(["a", "ab", "b", "ba", "long", "abcdefgh"], chance.randint(0, 6)):
                many = chance.randint(1, 12)
                rows = [some_row(chance, ["x", "y", "z"], many) for _ in range(many)]
                starts = [some_web(chance, book, chance.randint(0, 4)) for _ in range(chance.randint(1, 6))]
                loft.begin(name, rows, starts, lossy=chance.random() < 0.4)
                if chance.random() < 0.6:
                    loft.wish(name, [some_web(chance, book, chance.randint(0, 4)) for _ in range(chance.randint(1, 6))])
            self.same(loft)
            self.assertEqual(loft_plainly(write_page(loft)), loft)


class Refused(unittest.TestCase):
    def refuses(self, text, line=0):
        with self.assertRaises(BadPage) as caught:
            read_page(text)
        self.assertEqual(caught.exception.line, line, text)
        self.assertEqual(line_plainly(text), line, text)

    def test_a_line_that_begins_otherwise(self):
        for line in (
            "", " ", "odd", "shape", "program", "lossy", "row", "from", "to", "shapes list 1 -,-", "Row nil x",
            " row nil x", "rowing x", "fromx=-", "#", "row:nil", "programs p", "too x=-", "lossyp", "x=1",
            "shape-list 1 -,-",
        ):
            lines = WALK_PAGE.split("\n")[:-1]
            for at in range(len(lines) + 1):
                text = "\n".join(lines[:at] + [line] + lines[at:]) + "\n"
                self.refuses(text, at + 1)
                # The first one of several counts.
                self.refuses(text + "odd\n", at + 1)
            if line:
                self.refuses(WALK_PAGE + line, len(lines) + 1)
                self.refuses(line, 1)
        self.refuses("\n", 1)
        self.refuses("\n\n", 1)
        self.refuses("\n" + WALK_PAGE, 1)
        self.refuses(WALK_PAGE + "\n", 12)

    def test_the_last_line_feed_gone(self):
        self.refuses(WALK_PAGE[:-1])
        self.refuses(LISTS_PAGE[:-1])
        self.refuses(WALK_PAGE + "to x=-")
        self.refuses(WALK_PAGE + "to ")

    def test_lines_left_out(self):
        lines = WALK_PAGE.split("\n")[:-1]
        for at, line in enumerate(lines):
            text = "\n".join(lines[:at] + lines[at + 1:]) + "\n"
            # Without the shape or the name nothing holds together; with three rows there is no row 4 to go to.
            if line in ("shape list 1 -,-;-,p,list.p", "program walk", "row copy y x", "row read y y r", "row go 1"):
                self.refuses(text)
            else:
                self.assertEqual(write_page(read_page(text)), text)

    def test_lines_doubled(self):
        lines = WALK_PAGE.split("\n")[:-1]
        for at, line in enumerate(lines):
            text = "\n".join(lines[:at + 1] + lines[at:]) + "\n"
            if line.startswith(("row", "from", "to")):
                self.assertEqual(write_page(read_page(text)), text)
            else:
                self.refuses(text)

    def test_no_beginning_or_too_many(self):
        head = "program one\nrow go 1\n"
        self.refuses(head)
        self.refuses(head + "to x=-\n")
        self.refuses(head + "from x=-\n" * 7)
        self.refuses(head + "from x=-\n" + "to x=-\n" * 7)
        self.refuses(head + "from x=-\n" * 7 + "to x=-\n" * 7)
        for many in range(1, 7):
            text = head + "from x=-\n" * many + "to x=-\n" * (7 - many)
            self.assertEqual(write_page(read_page(text)), text)
        self.refuses("program one\nfrom x=-\n")
        self.refuses("program one\n")
        self.refuses("program one\n" + "row nil x\n" * 25 + "from x=-\n")
        # A program without a beginning ahead of one that has some.
        self.refuses(head + "program two\nrow go 1\nfrom x=-\n")

    def test_programs(self):
        rest = "row go 1\nfrom x=-\n"
        six = "".join(f"program {name}\n{rest}" for name in "abcdef")
        self.assertEqual(len(read_page(six)), 6)
        self.refuses(six + "program g\n" + rest)
        self.refuses(f"program b\n{rest}program a\n{rest}")
        self.refuses(f"program ab\n{rest}lossy aa\n{rest}")
        self.refuses(f"program a\n{rest}program a\n{rest}")
        self.refuses(f"program a\n{rest}lossy a\n{rest}")
        self.refuses(f"program a\nlossy a\n{rest}")
        self.refuses(f"lossy a\nprogram a\n{rest}")
        for name in ("", "A", "a1", "abcdefghi", "a b", "a ", " a", "-"):
            self.refuses(f"program {name}\n{rest}")
            self.refuses(f"lossy {name}\n{rest}")

    def test_order(self):
        rest = "row go 1\nfrom x=-\n"
        self.refuses(f"program a\n{rest}{LISTS_PAGE}")
        self.refuses(f"program a\nrow go 1\n{LISTS_PAGE}from x=-\n")
        self.refuses("program a\nfrom x=-\nrow go 1\n")
        self.refuses("program a\nrow go 1\nto x=-\nfrom x=-\n")
        self.refuses("program a\nrow nil x\nfrom x=-\nrow nil x\n")
        self.refuses("program a\nrow nil x\nfrom x=-\nto x=-\nfrom x=-\n")
        self.refuses("row go 1\nfrom x=-\nprogram a\n")
        for line in ("row go 0", "from x=-", "to x=-"):
            self.refuses(f"{line}\n")
            self.refuses(f"{line}\n{WALK_PAGE}")
            self.refuses(f"{LISTS_PAGE}{line}\n")
            self.refuses(f"{LISTS_PAGE}{line}\nprogram a\n{rest}")

    def test_shapes(self):
        for line in (
            "shape ", "shape list", "shape list 1", "shape list 1 ", "shape list 1 -,- ", "shape list  1 -,-",
            "shape list 0 -,-", "shape list 4 -,-", "shape list -1 -,-", "shape list 01 -,-", "shape list one -,-",
            "shape list 1 -", "shape list 1 -,", "shape list 1 ,", "shape list 1 -,-;", "shape list 1 ;-,-",
            "shape list 1 -,-,", "shape list 1 -,-,list", "shape list 1 -,p,list.", "shape list 1 -,p,list.p",
            "shape list 1 b,-", "shape list 2 -,-", "shape cell 1 -,-", "shape l 1 -,-", "shape List 1 -,-",
            "shape abcdefghi 1 -,-", "shape list 1 -,-;-,p,tree.p", "shape list 1 -,-;-,p,list.p.a",
            "shape list 1 -,-;-,-,list.p", "shape list 1 " + ";".join(["-,-"] * 7),
            "shape list 1 -,-;p,q,list.p,list.p",
            "shape list 1 -,-, list.p", "shape list 11 -,-", "shape list 1 aa,-", "shape list 1 -,-;-,p,list.pp",
            "shape list 1 -,-;-,p,list..p", "shape list " + "1" * 5000 + " -,-", "shape list 1 -,-;-,p,.p",
            "shape  1 -,-",
        ):
            self.refuses(f"{line}\n")
        self.refuses("shape list 1 -,-\nshape list 1 -,-\n")
        self.refuses("".join(f"shape s{letter} 1 -,-\n" for letter in "abcdefghi"))
        self.assertEqual(len(read_page("".join(f"shape s{letter} 1 -,-\n" for letter in "abcdefgh")).book()), 8)

    def test_rows(self):
        for line in (
            "row ", "row odd", "row nil", "row nil x y", "row nil  x", "row nil x ", "row nil X", "row nil abcdefg",
            "row go", "row go x", "row go 2", "row go -1", "row go 00", "row go 01", "row go +1", "row go 1.",
            "row go 1 1",
            "row go " + "9" * 5000, "row go 100", "row read x y", "row read x y m", "row write x y l", "row none x",
            "row none 0 x", "row same x y", "row same x y z 0", "row nil 1", "row go ", "row 0 go", "row  nil x",
            "row nil go 0",
        ):
            self.refuses(f"program a\n{line}\nfrom x=-\n")
        self.refuses("program a\n" + "".join(f"row nil {name}\n" for name in "abcdefg") + "from x=-\n")

    def test_webs(self):
        for text in (
            "", "x", "x=", "x=0", "x=1", "x=- ", " x=-", "x=-  y=-", "y=- x=-", "x=- x=-", "empty ", "x=1 1:tree()",
            "x=1 1:list(-)", "x=1 1:cell(-)", "x=1 2:list()", "x=1 1:part(1) 2:list()", "X=-", "x=1 1:list() 1:list()",
            "a=- b=- c=- d=- e=- f=- g=-", "a=- b=- c=- d=- e=- f=-", "x=1 1:LIST()", "x=1 1:list", "x=-1",
        ):
            self.refuses(f"{LISTS_PAGE}program a\nrow nil z\nfrom {text}\n")
            self.refuses(f"{LISTS_PAGE}program a\nrow nil z\nfrom x=-\nfrom {text}\n")
            self.refuses(f"{LISTS_PAGE}program a\nrow nil z\nfrom x=-\nto {text}\n")

    def test_by_chance(self):
        chance = random.Random(92)
        read = 0
        full = write_page(full_loft())
        two = "program a\nrow go 1\nfrom x=-\nlossy b\nrow maybe 0\nfrom x=*\nto x=*\n"
        small = write_page(Loft(TREES)) + two
        for turn in range(6000):
            text = chance.choice([WALK_PAGE, two, small]) if turn % 4 else full
            text = self.changed(chance, text)
            wanted = loft_plainly(text)
            if wanted is None:
                self.refuses(text, line_plainly(text))
            else:
                self.assertEqual(read_page(text), wanted)
                self.assertEqual(write_page(wanted), text)
                read += 1
        self.assertGreater(read, 300)

    def changed(self, chance, text):
        """Signs put in, taken out or put otherwise; lines left out, doubled or moved."""
        for _ in range(chance.choice([1, 1, 1, 2])):
            lines = text.split("\n")
            at, to = chance.randrange(len(lines)), chance.randrange(len(lines))
            sign = chance.choice("abcpqxylr-*,.;:()=0123 \n")
            place = chance.randrange(len(text) + 1)
            kind = chance.randrange(6)
            if kind == 0:
                text = text[:place] + sign + text[place:]
            elif kind == 1:
                text = text[:place] + text[place + 1:]
            elif kind == 2:
                text = text[:place] + sign + text[place + 1:]
            elif kind == 3:
                text = "\n".join(lines[:at] + lines[at + 1:])
            elif kind == 4:
                text = "\n".join(lines[:at] + [lines[to]] + lines[at:])
            else:
                lines[at], lines[to] = lines[to], lines[at]
                text = "\n".join(lines)
        return text


if __name__ == "__main__":
    unittest.main()
