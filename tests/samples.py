"""Books, webs and plain searches that several tests share; chance is a seeded random.Random."""

import itertools

from osier.books import Book
from osier.errors import BadRule, BadWeb, Groundless
from osier.folding import folds
from osier.growing import openings
from osier.programs import Program
from osier.webs import Web, read_web

LIST = ("list", 1, [("-", "-", ()), ("-", "p", (("list", ("p",)),))])
TREE = ("tree", 1, [
    ("-", "-", ()),
    ("p", "-", (("tree", ("p",)),)),
    ("-", "p", (("tree", ("p",)),)),
    ("p", "q", (("tree", ("p",)), ("tree", ("q",)))),
])
PART = ("part", 2, [("-", "b", ()), ("-", "p", (("part", ("p", "b")),))])
# A list with ways back: the left field leads to the cell ahead, which is the second point.
BACK = ("back", 2, [("b", "-", ()), ("b", "p", (("back", ("p", "a")),))])
# A stretch of such a list: a is its first cell, b the cell ahead, c what comes behind.
WAY = ("way", 3, [("b", "c", ()), ("b", "p", (("way", ("p", "a", "c")),))])
RING = ("ring", 1, [("-", "a", ()), ("-", "p", (("part", ("p", "a")),))])
# A tree all of whose leaves lead to the second point.
FORK = ("fork", 2, [("b", "b", ()), ("p", "q", (("fork", ("p", "b")), ("fork", ("q", "b"))))])
# The two inner shapes know of each other.
TWIN = ("twin", 1, [("p", "q", (("part", ("p", "q")), ("part", ("q", "p")))), ("a", "-", ())])
SHAPES = [LIST, TREE, PART, BACK, WAY, RING]
BOOK = Book(SHAPES)
LISTS = Book([LIST, PART])
TREES = Book([TREE])
NONE = Book([])
# Over a list, and letting a list go.
WALK = Program([("copy", "y", "x"), ("none", "y", 4), ("read", "y", "y", "r"), ("go", 1)])
LET_GO = Program([
    ("none", "x", 6), ("read", "y", "x", "r"), ("free", "x"), ("copy", "x", "y"), ("nil", "y"), ("go", 0),
])
LIST_WEBS = [read_web("x=1 1:list()"), read_web("x=-")]
TREE_WEB = read_web("x=1 1:tree()")
# With any other name that a program has, there are too many.
SIX = read_web("a=- b=- c=- d=- e=- f=-")
EIGHT_NAMES = ("ha", "hb", "hc", "hd", "he", "hf", "hg", "hh")


def webs(*texts):
    return [read_web(text) for text in texts]


def shown(told):
    return [repr(web) for web in told]


def seen(loft):
    """All that a loft tells of itself."""
    programs = [
        (name, loft.program(name).row_rows(), loft.program(name).lossy, loft.starts(name), loft.wishes(name))
        for name in loft.names()
    ]
    return (programs, loft.book().shape_rows(), len(loft))


def chain(cells, end=0, name="x"):
    """A heap of so many cells, each one the right field of the one ahead."""
    if cells == 0:
        return Web([(name, end)])
    items = [("cell", (0, number + 1)) for number in range(1, cells)] + [("cell", (0, end))]
    return Web([(name, 1)], items)


def full_tree(cells):
    """A heap: cell k has the fields 2k and 2k + 1 as far as there are such cells."""
    fields = [tuple(field if field <= cells else 0 for field in (2 * k, 2 * k + 1)) for k in range(1, cells + 1)]
    return Web([("x", 1)], [("cell", pair) for pair in fields])


def doubling_book():
    """Shapes ha to hh: the one of height k has just the heap of 2 ** k - 1 cells."""
    shapes = [("ha", 1, [("-", "-", ())])]
    for low, high in zip(EIGHT_NAMES, EIGHT_NAMES[1:]):
        shapes.append((high, 1, [("p", "q", ((low, ("p",)), (low, ("q",))))]))
    return Book(shapes)


def some_rule(chance, points, counts):
    """A rule that a shape of so many points can have."""
    while True:
        firsts = chance.choice([(), (), ("p",), ("p",), ("q",), ("p", "q"), ("q", "p")])
        letters = list("abc"[:points]) + list(firsts) + ["-"]
        inner = []
        for first in firsts:
            name, count = chance.choice(counts)
            inner.append((name, (first,) + tuple(chance.choice(letters) for _ in range(count - 1))))
        left, right = chance.choice(letters), chance.choice(letters)
        used = [left, right] + [letter for _, told in inner for letter in told]
        if all(first in (left, right) for first in firsts) and all(own in used for own in "bc"[:points - 1]):
            return (left, right, tuple(inner))


def with_stretch(chance, shapes):
    """The shapes, and a stretch that leads into some of them."""
    stretch = chance.choice([
        PART,
        ("part", 2, [("b", "-", ()), ("p", "-", (("part", ("p", "b")),))]),
        ("part", 2, [("a", "b", ()), ("a", "p", (("part", ("p", "b")),)), ("-", "b", ())]),
    ])
    more = []
    for name, points, rules in shapes:
        rules = list(rules)
        if chance.random() < 0.7:
            for rule in stretch[2]:
                left, right = ["p" if field == "b" else field for field in rule[:2]]
                rules.append((left, right, ((name, ("p", "b", "c")[:points]),)))
        chance.shuffle(rules)
        more.append((name, points, rules[:6]))
    more.append(stretch)
    chance.shuffle(more)
    return more


def some_book(chance):
    """A book of a few shapes with rules by chance."""
    while True:
        counts = [(name, chance.choice((1, 1, 2, 2, 3))) for name in EIGHT_NAMES[:chance.randint(1, 4)]]
        shapes = []
        for name, points in counts:
            rules = [some_rule(chance, points, counts) for _ in range(chance.randint(1, 3))]
            shapes.append((name, points, rules))
        if chance.random() < 0.6:
            shapes = with_stretch(chance, shapes)
        try:
            return Book(shapes)
        except (Groundless, BadRule):
            continue


def pruned(names, items):
    """The web of those points that are come to, found in a way of its own."""
    met = {0: 0, -1: -1}
    kept = []
    waiting = [target for _, target in names]
    while waiting:
        target = waiting.pop()
        if target not in met:
            kept.append(items[target - 1])
            met[target] = len(kept)
            waiting.extend(items[target - 1][1])
    items = [(word, [met[target] for target in targets]) for word, targets in kept]
    return Web([(name, met[target]) for name, target in names], items)


def some_web(chance, book, points, names=3):
    """A web of at most so many points."""
    words = [(name, count) for name, count, _ in book.shape_rows()] + [("cell", 3)] * 3
    items = []
    for _ in range(points):
        word, count = chance.choice(words)
        targets = [chance.randint(-1, points) if chance.random() < 0.7 else 0 for _ in range(count - 1)]
        items.append((word, tuple(targets)))
    pairs = []
    for name in "xyzuvw"[:chance.randint(1, names)]:
        target = chance.randint(1, points) if points and chance.random() < 0.8 else chance.randint(-1, 0)
        pairs.append((name, target))
    return pruned(pairs, items)


def opened_by_chance(chance, book, web, most):
    """The web with some points opened, as long as it has at most so many points."""
    for _ in range(chance.randint(0, 6)):
        shaped = [point for point, (word, _) in enumerate(web.item_rows(), start=1) if word != "cell"]
        if not shaped:
            break
        opening = chance.choice(openings(book, web, chance.choice(shaped)))
        if len(opening) > most:
            break
        web = opening
    return web


def changed_by_chance(chance, web):
    """The web with one target otherwise, or None where that is no web."""
    items = web.item_rows()
    places = [(at, field) for at, (_, targets) in enumerate(items) for field in range(len(targets))]
    if not places:
        return None
    at, field = chance.choice(places)
    word, targets = items[at]
    targets = list(targets)
    targets[field] = chance.randint(-1, len(items))
    items[at] = (word, tuple(targets))
    try:
        return Web(web.name_rows(), items)
    except BadWeb:
        return None


def some_row(chance, names, end):
    """A row of a program with that end and some of these names."""
    one, two = chance.choice(names), chance.choice(names)
    field, jump = chance.choice("lr"), chance.randint(0, end)
    return chance.choice([
        ("new", one), ("free", one), ("copy", one, two), ("nil", one), ("read", one, two, field),
        ("write", one, field, two), ("clear", one, field), ("same", one, two, jump), ("none", one, jump),
        ("maybe", jump), ("go", jump),
    ])


def all_by_folds(book, web, most=1500):
    """All webs by their texts that come of the web by folds, and itself; None where they are very many."""
    found = {repr(web): web}
    waiting = [web]
    while waiting:
        for fold in folds(book, waiting.pop()):
            if repr(fold) not in found:
                found[repr(fold)] = fold
                waiting.append(fold)
        if len(found) > most:
            return None
    return found


def without(web, point, item, dropped):
    """The web with the item at the point, without the dropped points; None where that is no web."""
    numbers = {0: 0, -1: -1}
    for number in range(1, len(web) + 1):
        if number not in dropped:
            numbers[number] = len(numbers) - 1
    items = web.item_rows()
    items[point - 1] = item
    try:
        rows = [(word, [numbers[target] for target in targets])
                for number, (word, targets) in enumerate(items, start=1) if number not in dropped]
        return Web([(name, numbers[target]) for name, target in web.name_rows()], rows), numbers[point]
    except (KeyError, BadWeb):
        return None


def cell_folds_plainly(book, web, point):
    """All webs with a shape at the point whose opening there is the web, tried out."""
    told = []
    every = range(1, len(web) + 1)
    for shape, points, rules in book.shape_rows():
        for at, (_, _, inner) in enumerate(rules):
            others = [number for number in every if number != point]
            for dropped in itertools.combinations(others, len(inner)):
                for targets in itertools.product(range(-1, len(web) + 1), repeat=points - 1):
                    if set(targets) & set(dropped):
                        continue
                    made = without(web, point, (shape, targets), dropped)
                    # The point may have another number in the web that is made anew.
                    if made is not None and web in opened_at(book, made[0], shape, at):
                        told.append((shape, at, repr(made[0])))
    return [text for _, _, text in dict.fromkeys(told)]


def opened_at(book, web, shape, rule):
    """The openings by that rule of all points with the shape."""
    points = [point for point, (word, _) in enumerate(web.item_rows(), start=1) if word == shape]
    return [openings(book, web, point)[rule] for point in points]


def joins_plainly(book, web, point):
    """The fold of point 13's second part, told from its words."""
    items = web.item_rows()
    word, targets = items[point - 1]
    if len(targets) != 1 or targets[0] < 1 or targets[0] == point or items[targets[0] - 1][0] == "cell":
        return []
    target = targets[0]
    leading = [("name", name) for name, led in web.name_rows() if led == target]
    leading += [(at, field) for at, (_, led) in enumerate(items, start=1) for field in led if field == target]
    if leading != [(point, target)] or not book.leads_into(word, items[target - 1][0]):
        return []
    return [repr(without(web, point, items[target - 1], (target,))[0])]


def folds_plainly(book, web, point):
    """The texts of the folds at the point, in the told order."""
    word, _ = web.item_rows()[point - 1]
    return cell_folds_plainly(book, web, point) if word == "cell" else joins_plainly(book, web, point)
