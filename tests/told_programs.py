"""Programs over lists, stretches, trees and lists with ways back, as (book, program, starts, wishes, ..)."""

from osier.books import Book
from osier.programs import Program
from samples import BACK, BOOK, LET_GO, LISTS, TREES, WALK, webs

# What lies behind a cell of a list with ways back, told from that cell: b is the cell that follows.
FORE = ("fore", 2, [("-", "b", ()), ("p", "b", (("fore", ("p", "a")),))])
WAYS = Book([BACK, FORE])
SOME_LIST = ("x=1 1:list()", "x=-")
SOME_TREE = ("x=1 1:tree()", "x=-")
SOME_BACK = ("x=1 1:back(-)", "x=-")
CUT_LIST = ("x=1 y=2 1:part(2) 2:list()",)

PUSH = [("new", "y"), ("write", "y", "r", "x"), ("copy", "x", "y"), ("nil", "y")]
TURN = [
    ("none", "x", 7), ("read", "z", "x", "r"), ("write", "x", "r", "y"), ("copy", "y", "x"), ("copy", "x", "z"),
    ("nil", "z"), ("go", 0),
]
TAKE_SECOND = [
    ("none", "x", 8), ("read", "y", "x", "r"), ("none", "y", 8), ("read", "z", "y", "r"), ("write", "x", "r", "z"),
    ("free", "y"), ("nil", "y"), ("nil", "z"),
]
TAKE_FIRST = [("none", "x", 5), ("read", "y", "x", "r"), ("free", "x"), ("copy", "x", "y"), ("nil", "y")]
TO_THE_CUT = [("copy", "z", "x"), ("same", "z", "y", 4), ("read", "z", "z", "r"), ("go", 1), ("nil", "z")]
CUT_OFF = [
    ("copy", "z", "x"), ("read", "w", "z", "r"), ("same", "w", "y", 5), ("copy", "z", "w"), ("go", 1),
    ("clear", "z", "r"), ("nil", "z"), ("nil", "w"),
]
LET_GO_TO_THE_CUT = [
    ("same", "x", "y", 5), ("read", "z", "x", "r"), ("free", "x"), ("copy", "x", "z"), ("go", 0), ("nil", "x"),
    ("nil", "z"),
]
TURN_TREE = [
    ("none", "x", 7), ("read", "y", "x", "l"), ("read", "z", "x", "r"), ("write", "x", "l", "z"),
    ("write", "x", "r", "y"), ("nil", "y"), ("nil", "z"),
]
DOWN_TREE = [
    ("none", "x", 6), ("maybe", 4), ("read", "x", "x", "l"), ("go", 0), ("read", "x", "x", "r"), ("go", 0),
]
TAKE_LEFT = [
    ("none", "x", 9), ("read", "y", "x", "l"), ("none", "y", 9), ("read", "z", "y", "l"), ("write", "x", "l", "z"),
    ("free", "y"), ("nil", "y"), ("nil", "z"), ("go", 9),
]
# To the last cell and back to the first one; only the ways back keep what is passed.
THERE_AND_BACK = [
    ("none", "x", 9), ("read", "y", "x", "r"), ("none", "y", 5), ("copy", "x", "y"), ("go", 1),
    ("read", "y", "x", "l"), ("none", "y", 9), ("copy", "x", "y"), ("go", 5),
]
PUSH_BACK = [
    ("new", "y"), ("none", "x", 4), ("write", "y", "r", "x"), ("write", "x", "l", "y"), ("copy", "x", "y"),
    ("nil", "y"),
]
TAKE_FIRST_BACK = [
    ("none", "x", 7), ("read", "y", "x", "r"), ("none", "y", 4), ("clear", "y", "l"), ("free", "x"), ("copy", "x", "y"),
    ("nil", "y"),
]
TURN_BACK = [
    ("none", "x", 8), ("read", "z", "x", "r"), ("write", "x", "l", "z"), ("write", "x", "r", "y"), ("copy", "y", "x"),
    ("copy", "x", "z"), ("nil", "z"), ("go", 0),
]
OVER_RING = [("copy", "y", "x"), ("read", "y", "y", "r"), ("same", "x", "y", 4), ("go", 1), ("nil", "y")]
LET_GO_RING = [
    ("read", "y", "x", "r"), ("same", "x", "y", 6), ("read", "z", "y", "r"), ("write", "x", "r", "z"), ("free", "y"),
    ("go", 0), ("free", "x"), ("nil", "x"), ("nil", "y"), ("nil", "z"),
]


def told(book, rows, starts, wishes, lossy=False):
    wished = None if wishes is None else webs(*wishes)
    return (book, Program(rows, lossy=lossy), webs(*starts), wished)


KEPT = {
    "walk": told(LISTS, WALK.row_rows(), SOME_LIST, SOME_LIST),
    "walk without wishes": told(LISTS, WALK.row_rows(), SOME_LIST, None),
    "let go": told(LISTS, LET_GO.row_rows(), SOME_LIST, ["x=-"]),
    "push": told(LISTS, PUSH, SOME_LIST, SOME_LIST[:1]),
    "push and push": told(LISTS, PUSH + [("maybe", 0)], SOME_LIST, SOME_LIST[:1]),
    "turn": told(LISTS, TURN, SOME_LIST, ["x=- y=1 1:list()", "x=- y=-"]),
    "take second": told(LISTS, TAKE_SECOND, SOME_LIST, SOME_LIST),
    "take first": told(LISTS, TAKE_FIRST, SOME_LIST, SOME_LIST),
    "to the cut": told(LISTS, TO_THE_CUT, CUT_LIST, CUT_LIST),
    "cut off": told(LISTS, CUT_OFF, CUT_LIST, ["x=1 y=2 1:list() 2:list()"]),
    "let go to the cut": told(LISTS, LET_GO_TO_THE_CUT, CUT_LIST, ["x=- y=1 1:list()"]),
    "turn tree": told(TREES, TURN_TREE, SOME_TREE, SOME_TREE),
    "down tree": told(TREES, DOWN_TREE, SOME_TREE, ["x=-"], True),
    "take left": told(TREES, TAKE_LEFT, SOME_TREE, SOME_TREE, True),
    "there and back": told(WAYS, THERE_AND_BACK, SOME_BACK, SOME_BACK),
    "push back": told(WAYS, PUSH_BACK, SOME_BACK, SOME_BACK[:1]),
    "take first back": told(WAYS, TAKE_FIRST_BACK, SOME_BACK, SOME_BACK),
    "let go back": told(WAYS, LET_GO.row_rows(), SOME_BACK, ["x=-"]),
    "turn back": told(WAYS, TURN_BACK, SOME_BACK, ["x=- y=1 1:back(-)", "x=-"]),
    "over ring": told(BOOK, OVER_RING, ["x=1 1:ring()"], ["x=1 1:ring()"]),
    "let go ring": told(BOOK, LET_GO_RING, ["x=1 1:ring()"], ["x=-"]),
}


def otherwise(rows, number, row):
    """The rows with another one of that number."""
    return rows[:number] + [row] + rows[number + 1:]


# Behind each one the word by which it breaks, and the least number of cells with which it does.
BROKEN = {
    "walk too far": (*told(LISTS, [("copy", "y", "x"), ("read", "y", "y", "r"), ("none", "y", 4), ("go", 1)],
                           SOME_LIST, None), "nothing", 0),
    "walk by two": (*told(LISTS, [("none", "x", 3), ("read", "y", "x", "r"), ("read", "y", "y", "r")], SOME_LIST, None),
                    "nothing", 1),
    "let go what is used": (*told(LISTS, [("none", "x", 4), ("free", "x"), ("read", "y", "x", "r"), ("nil", "x")],
                                  SOME_LIST[1:] + ("x=1 1:cell(-,-)",), None), "gone", 1),
    "let go the first alone": (*told(LISTS, [("none", "x", 2), ("free", "x")], SOME_LIST, None), "lost", 2),
    "turn without z": (*told(LISTS, otherwise(TURN, 4, ("copy", "x", "y")), SOME_LIST, None), "lost", 2),
    "turn and wish for x": (*told(LISTS, TURN, SOME_LIST, SOME_LIST), "unlike", 1),
    "take second and keep it": (*told(LISTS, otherwise(TAKE_SECOND, 5, ("go", 6)), SOME_LIST, SOME_LIST), "lost", 2),
    "take second at the last": (*told(LISTS, otherwise(TAKE_SECOND, 2, ("go", 3)), SOME_LIST, None), "nothing", 1),
    "to the cut and on": (*told(LISTS, otherwise(TO_THE_CUT, 1, ("same", "z", "w", 4)), CUT_LIST, ["x=-"]),
                          "unlike", 2),
    "cut off twice": (*told(LISTS, CUT_OFF + [("copy", "x", "y")], CUT_LIST, None), "lost", 2),
    "turn tree half": (*told(TREES, otherwise(TURN_TREE, 3, ("go", 4)), SOME_TREE, None), "lost", 2),
    "two ways to one": (*told(TREES, otherwise(TURN_TREE, 4, ("go", 5)), SOME_TREE, SOME_TREE, True), "unlike", 2),
    "down tree and lose": (*told(TREES, DOWN_TREE, SOME_TREE, None), "lost", 1),
    "take left tree": (*told(TREES, TAKE_LEFT, SOME_TREE, None), "lost", 3),
    "push back one way": (*told(WAYS, PUSH, SOME_BACK, SOME_BACK[:1]), "unlike", 1),
    "take first back, way kept": (*told(WAYS, otherwise(TAKE_FIRST_BACK, 3, ("go", 4)), SOME_BACK, SOME_BACK),
                                  "unlike", 2),
    "turn back one way": (*told(WAYS, otherwise(TURN_BACK, 2, ("go", 3)), SOME_BACK, ["x=- y=1 1:back(-)", "x=-"]),
                          "unlike", 2),
    "let go ring by none": (*told(BOOK, otherwise(LET_GO_RING, 1, ("none", "y", 6)), ["x=1 1:ring()"], None),
                            "gone", 1),
}
# Neither a table nor a break: the row and the word of the table, and up to how many cells all is gone through.
UNSURE = {
    "to the left": (*told(TREES, [("none", "x", 9), ("copy", "y", "x"), ("read", "z", "y", "l"), ("none", "z", 6),
                                  ("copy", "y", "z"), ("go", 2), ("nil", "y"), ("nil", "z"), ("go", 9)],
                          SOME_TREE, SOME_TREE), 8, "many"),
    "walk over ways": (*told(BOOK, WALK.row_rows(), SOME_BACK, SOME_BACK), 4, "unlike"),
}
