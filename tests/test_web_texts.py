"""Point 4, read_web: texts of webs read, and all others refused."""

import itertools
import random
import re
import unittest

from osier.errors import BadText
from osier.webs import Web, read_web

GOOD = (
    "empty",
    "x=-",
    "x=*",
    "x=- y=* z=-",
    "x=1 1:tree()",
    "x=1 1:cell(-,-)",
    "x=1 1:cell(1,*)",
    "x=1 y=- z=* 1:cell(2,3) 2:list(-) 3:tree()",
    "a=1 b=2 1:cell(2,3) 2:cell(1,3) 3:ring(2,*)",
    "abcdef=1 1:abcdefgh(1,1)",
    "a=- b=* c=1 d=1 e=2 f=1 1:part(2) 2:part(1)",
)
NAME = re.compile(r"([a-z]{1,6})=(-|\*|[1-9][0-9]{0,2})")
ITEM = re.compile(r"([1-9][0-9]{0,2}):([a-z]{2,8})\(((?:(?:-|\*|[1-9][0-9]{0,2})(?:,(?:-|\*|[1-9][0-9]{0,2}))?)?)\)")


def is_shown(text):
    """Whether some web shows as the text, told from point 4 without the program."""
    if text == "empty":
        return True
    words = text.split(" ")
    names = [match for match in (NAME.fullmatch(word) for word in words) if match]
    items = [match for match in (ITEM.fullmatch(word) for word in words) if match]
    if words != [match.group(0) for match in names + items]:
        return False
    called = [match.group(1) for match in names]
    if not 1 <= len(called) <= 6 or called != sorted(set(called)) or len(items) > 200:
        return False
    walk = [match.group(2) for match in names]
    for place, match in enumerate(items, start=1):
        targets = match.group(3).split(",") if match.group(3) else []
        if match.group(1) != str(place) or (match.group(2) == "cell" and len(targets) != 2):
            return False
        # A point behind all that was met so far hangs on nothing that has a number ahead of it.
        if place > max([0] + [int(sign) for sign in walk if sign.isdigit()]):
            return False
        walk.extend(targets)
    seen = 0
    for sign in walk:
        if sign.isdigit():
            if int(sign) > seen + 1:
                return False
            seen = max(seen, int(sign))
    return seen == len(items)


class Read(unittest.TestCase):
    def check(self, text):
        """The text is read where it is some web's, and is refused otherwise."""
        if is_shown(text):
            self.assertEqual(repr(read_web(text)), text)
            return True
        with self.assertRaises(BadText, msg=repr(text)):
            read_web(text)
        return False

    def test_texts_read_back(self):
        for text in GOOD:
            self.assertTrue(is_shown(text), text)
            web = read_web(text)
            self.assertIsInstance(web, Web)
            self.assertEqual(repr(web), text)
            self.assertTrue(read_web(repr(web)) == web)

    def test_what_is_read(self):
        self.assertTrue(read_web("empty") == Web())
        web = read_web("x=1 y=- z=* 1:cell(2,3) 2:list(-) 3:tree()")
        self.assertEqual(web.name_rows(), [("x", 1), ("y", 0), ("z", -1)])
        self.assertEqual(web.item_rows(), [("cell", (2, 3)), ("list", (0,)), ("tree", ())])

    def test_webs_of_up_to_200_points(self):
        for points in (9, 10, 11, 99, 100, 199, 200):
            items = [("cell", (point + 1, 1)) for point in range(1, points)] + [("tree", ())]
            web = Web([("x", 1), ("y", points)], items)
            self.assertTrue(read_web(repr(web)) == web)
        text = "x=1 " + " ".join(f"{k}:part({k + 1})" for k in range(1, 201)) + " 201:tree()"
        with self.assertRaises(BadText):
            read_web(text)

    def test_many_small_webs(self):
        targets = (-1, 0, 1, 2)
        for left, right, more, name in itertools.product(targets, targets, targets, targets):
            items = [("cell", (left, right)), ("part", (more,))]
            web = Web([("y", 1), ("b", name), ("x", 2)], items)
            self.assertTrue(read_web(repr(web)) == web)
            self.assertTrue(is_shown(repr(web)))

    def test_one_sign_put_in_taken_out_or_put_over(self):
        signs = "".join(map(chr, range(32, 127))) + "\n"
        read = 0
        for text in GOOD:
            for at in range(len(text) + 1):
                self.check(text[:at] + text[at + 1:])
                for sign in signs:
                    read += self.check(text[:at] + sign + text[at:])
                    read += self.check(text[:at] + sign + text[at + 1:])
        # Some of these are other webs' texts: without them the check would only see refusals.
        self.assertGreater(read, 50)

    def test_words_in_another_order(self):
        for text in ("x=1 y=2 1:cell(2,3) 2:tree() 3:tree()", "x=1 y=- 1:part(2) 2:list()"):
            for words in itertools.permutations(text.split(" ")):
                self.assertEqual(self.check(" ".join(words)), " ".join(words) == text)

    def test_other_numbers(self):
        refused = (
            "x=2 1:tree() 2:cell(1,-)",
            "x=2 2:tree()",
            "x=1 1:cell(3,2) 2:tree() 3:tree()",
            "x=2 y=1 1:tree() 2:tree()",
            "x=1 2:tree()",
            "x=1 1:cell(2,-) 3:tree()",
            "x=1 1:cell(2,-) 1:tree()",
            "x=01 1:tree()",
            "x=1 01:tree()",
            "x=1 1:part(01)",
            "x=1 1:part(0)",
            "x=0",
            "x=-1",
            "x=+1 1:tree()",
            "x=1 +1:tree()",
            "x=1_0 1:tree()",
            "x=1 1:part(-1)",
            "x=2 1:tree()",
            "x=1",
            "1:tree()",
            "x=- 1:tree()",
            "x=1 1:tree() 2:tree()",
            "x=" + "1" * 5000 + " 1:tree()",
            "x=1 " + "1" * 5000 + ":tree()",
            "x=1 1:part(" + "0" * 5000 + "1)",
        )
        for text in refused:
            self.assertFalse(self.check(text), text)

    def test_blanks_and_ends(self):
        for text in GOOD:
            for odd in (text + " ", " " + text, text + "\n", text + " empty", "empty " + text, text + "empty"):
                self.assertFalse(self.check(odd), odd)
            if " " in text:
                self.assertFalse(self.check(text.replace(" ", "  ", 1)))
                self.assertFalse(self.check(text.replace(" ", "\n", 1)))
                self.assertFalse(self.check(text.replace(" ", ", ", 1)))

    def test_wrong_words(self):
        refused = (
            "",
            " ",
            "Empty",
            "x",
            "=",
            "x=",
            "=1 1:tree()",
            "abcdefg=-",
            "X=-",
            "x=- x=-",
            "x=1 x=1 1:tree()",
            "x=1 1:tree",
            "x=1 1:tree(",
            "x=1 1:tree)",
            "x=1 1:tree())",
            "x=1 1:tree(()",
            "x=1 1:tree(,)",
            "x=1 1:ring(-,)",
            "x=1 1:ring(,-)",
            "x=1 1:ring(-,-,-)",
            "x=1 1:ring(-, -)",
            "x=1 1:cell(-)",
            "x=1 1:cell()",
            "x=1 1:cell",
            "x=1 1:a()",
            "x=1 1:abcdefghi()",
            "x=1 1:Tree()",
            "x=1 :tree()",
            "x=1 1:()",
            "x=1 1:",
            "x=1 :",
            "x=1 1::tree()",
            "x:1 1:tree()",
            "x=1 1=tree()",
            "x=1=1 1:tree()",
            "a=- b=- c=- d=- e=- f=- g=-",
        )
        for text in refused:
            self.assertFalse(self.check(text), text)

    def test_chance_texts(self):
        chance = random.Random(9)
        words = ["x=1", "y=2", "y=-", "a=*", "1:cell(2,-)", "1:part(2)", "2:tree()", "2:ring(1,*)", "1:tree()", "empty"]
        read = 0
        for _ in range(4000):
            read += self.check(" ".join(chance.choices(words, k=chance.randint(1, 4))))
        self.assertGreater(read, 50)


if __name__ == "__main__":
    unittest.main()
