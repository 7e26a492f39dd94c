"""Openings of a web's points, and the heaps that come of a web by them."""

from osier.books import need_items
from osier.errors import Full
from osier.letters import own_targets
from osier.matching import comes_by_folds
from osier.webs import CELL, MOST_POINTS, Web, unmet


def openings(book, web, point):
    """The webs that come of opening the point by all rules in order; of a cell the web itself."""
    need_items(book, web)
    return opened_webs(book, web, point)


def opened_webs(book, web, point):
    """The openings of a point of a web that fits the book."""
    word, targets = web.item_rows()[point - 1]
    if word == CELL:
        return [web]
    return [opened(web, point, rule) for rule in book.rules(word)]


def opened(web, point, rule):
    """The web with a cell at the point, and new points for what is within the rule."""
    left, right, inner = rule
    items = web.item_rows()
    if len(items) + len(inner) > MOST_POINTS:
        raise Full()
    word, targets = items[point - 1]
    bound = own_targets((point, *targets))
    for number, (name, letters) in enumerate(inner, start=len(items) + 1):
        bound[letters[0]] = number
    items[point - 1] = (CELL, (bound[left], bound[right]))
    for name, letters in inner:
        items.append((name, tuple([bound[letter] for letter in letters[1:]])))
    return Web(web.name_rows(), items)


def grown(book, web, choices=()):
    """The heap that comes of opening the first point with a shape, by the choices as long as there are some."""
    need_items(book, web)
    used = 0
    point = first_shaped(web)
    while point is not None:
        word, targets = web.item_rows()[point - 1]
        if used < len(choices):
            rules = book.rules(word)
            rule = rules[choices[used] % len(rules)]
            used += 1
        else:
            rule = lowering_rule(book, word)
        web = opened(web, point, rule)
        point = first_shaped(web)
    return web


def first_shaped(web):
    """The first point with a shape, or None."""
    for point, (word, targets) in enumerate(web.item_rows(), start=1):
        if word != CELL:
            return point
    return None


def lowering_rule(book, shape):
    """The first rule whose inner shapes are all less high than the shape; each height comes of such a rule."""
    height = book.height(shape)
    rules = [rule for rule in book.rules(shape) if all([book.height(name) < height for name, letters in rule[2]])]
    return rules[0]


def heaps_of(book, web, *, cells):
    """The heaps of the web with at most so many cells, those with fewer cells first, else by their texts."""
    need_items(book, web)
    heaps = {}
    met = {repr(web): True}
    waiting = [web]
    while waiting:
        on_the_way = waiting.pop()
        point = first_shaped(on_the_way)
        # No opening takes a point away, so a web with too many points has no heap to be told.
        if len(on_the_way) <= cells and point is None:
            heaps[repr(on_the_way)] = on_the_way
        elif len(on_the_way) <= cells:
            waiting.extend(unmet(opened_webs(book, on_the_way, point), met))
    texts = sorted(list(heaps), key=lambda text: (len(heaps[text]), text))
    return [heaps[text] for text in texts]


def holds(book, web, heap):
    """True where the heap is one of the web's heaps."""
    need_items(book, web)
    need_items(book, heap)
    return holds_to_one(book, [web], heap)


def holds_to_one(book, webs, heap):
    """True where the heap is one of the heaps of one of the webs; all of them fit the book."""
    # In a heap there is no stretch to be joined, so its folds are just openings taken back.
    return heap.is_heap() and comes_by_folds(book, heap, webs)
