"""Webs: names that lead to points, and one item at each point."""

from osier.errors import BadName, BadText, BadWeb, NoName
from osier.words import is_small_word

CELL = "cell"
CELL_TARGETS = 2
MOST_TARGETS = 2
MOST_NAMES = 6
MOST_POINTS = 200
NOTHING = 0
GONE = -1
EMPTY = "empty"
DIGITS = "0123456789"
MOST_DIGITS = 3


class Web:
    """A web's names, sorted, and its items, in the order in which its points are met."""

    def __init__(self, names=(), items=()):
        name_pairs = [(name, target) for name, target in names]
        item_pairs = [(word, tuple(targets)) for word, targets in items]
        need_names(name_pairs)
        need_targets(name_pairs, item_pairs)
        order = met_points(name_pairs, item_pairs)
        if len(order) < len(item_pairs) or len(name_pairs) > MOST_NAMES or len(item_pairs) > MOST_POINTS:
            raise BadWeb(None)
        numbers = new_numbers(order)
        self.name_pairs = tuple([(name, numbers[target]) for name, target in sorted(name_pairs)])
        self.item_pairs = tuple([renumbered(item_pairs[point - 1], numbers) for point in order])

    def name_rows(self):
        """All (name, target), sorted."""
        return list(self.name_pairs)

    def item_rows(self):
        """The (word, targets) of point 1, of point 2 and so on."""
        return list(self.item_pairs)

    def target(self, name):
        """Where the name leads."""
        for known, target in self.name_pairs:
            if known == name:
                return target
        raise NoName(name)

    def is_heap(self):
        """True where all items are cells."""
        return all([word == CELL for word, targets in self.item_pairs])

    def __eq__(self, other):
        return isinstance(other, Web) and self.name_pairs == other.name_pairs and self.item_pairs == other.item_pairs

    def __len__(self):
        return len(self.item_pairs)

    def __repr__(self):
        return " ".join(shown_words(self.name_pairs, self.item_pairs))


def need_names(name_pairs):
    """Refuse the first entry whose name is none, or stood in an entry ahead."""
    ahead = set()
    for name, target in name_pairs:
        if name in ahead or not is_small_word(name, 1, 6):
            raise BadName(name)
        ahead.add(name)


def need_targets(name_pairs, item_pairs):
    """Refuse the first item that is wrong in itself, then a name that leads to no point."""
    points = len(item_pairs)
    for place, item in enumerate(item_pairs):
        if not is_item(item, points):
            raise BadWeb(place)
    if not all([is_target(target, points) for name, target in name_pairs]):
        raise BadWeb(-1)


def is_item(item, points):
    """True where a web of so many points can have the item."""
    word, targets = item
    if not is_small_word(word, 2, 8) or len(targets) > MOST_TARGETS:
        return False
    if word == CELL and len(targets) != CELL_TARGETS:
        return False
    return all([is_target(target, points) for target in targets])


def is_target(target, points):
    """True for gone, nothing, and the number of a point."""
    return GONE <= target <= points


def met_points(name_pairs, item_pairs):
    """The points that are come to from the names, in the order in which they are met."""
    order = []
    met = {NOTHING: True, GONE: True}
    meet([target for name, target in sorted(name_pairs)], order, met)
    at = 0
    while at < len(order):
        word, targets = item_pairs[order[at] - 1]
        meet(targets, order, met)
        at += 1
    return order


def meet(targets, order, met):
    """Put those targets that were not met yet behind the order."""
    for target in targets:
        if target not in met:
            met[target] = True
            order.append(target)


def new_numbers(order):
    """New targets by old ones: a point is numbered by its place, nothing and gone stay."""
    numbers = {NOTHING: NOTHING, GONE: GONE}
    for number, point in enumerate(order, start=1):
        numbers[point] = number
    return numbers


def renumbered(item, numbers):
    """The item with its targets by their new numbers."""
    word, targets = item
    return (word, tuple([numbers[target] for target in targets]))


def pruned_web(name_pairs, item_pairs):
    """The web of these names, and of those of the points alone that are come to from them."""
    order = met_points(name_pairs, item_pairs)
    numbers = new_numbers(order)
    names = [(name, numbers[target]) for name, target in name_pairs]
    return Web(names, [renumbered(item_pairs[point - 1], numbers) for point in order])


def unmet(webs, met):
    """Those of the webs whose texts were not met yet, each once; they are met from now on."""
    found = []
    for web in webs:
        text = repr(web)
        if text not in met:
            met[text] = True
            found.append(web)
    return found


def shown_words(name_pairs, item_pairs):
    """The words of a web's text."""
    words = [f"{name}={shown_target(target)}" for name, target in name_pairs]
    for number, (word, targets) in enumerate(item_pairs, start=1):
        inside = ",".join([shown_target(target) for target in targets])
        words.append(f"{number}:{word}({inside})")
    return words or [EMPTY]


def shown_target(target):
    """A target as a web's text has it."""
    if target == NOTHING:
        return "-"
    if target == GONE:
        return "*"
    return str(target)


def read_web(text):
    """The web that shows as the text."""
    web = loosely_read(text)
    # The reading lets much by (other numbers, another order): only what shows as the very text is a web's text.
    if repr(web) != text:
        raise BadText()
    return web


def loosely_read(text):
    """A web of the words of the text, whatever the numbers and the order of its points are."""
    if text == EMPTY:
        return Web()
    words = text.split(" ")
    names = [read_name(word) for word in words if ":" not in word]
    items = [read_item(word) for word in words if ":" in word]
    try:
        return Web(names, items)
    except (BadName, BadWeb):
        raise BadText() from None


def read_name(word):
    """The (name, target) of a word as "x=1"."""
    name, sign, target = word.partition("=")
    return (name, read_target(target))


def read_item(word):
    """The (word, targets) of a word as "1:cell(2,-)"."""
    number, sign, item = word.partition(":")
    shape, bracket, inside = item.partition("(")
    parts = inside.removesuffix(")").split(",")
    if parts == [""]:
        return (shape, ())
    return (shape, tuple([read_target(part) for part in parts]))


def read_target(word):
    """The target that is shown as the word."""
    if word == "-":
        return NOTHING
    if word == "*":
        return GONE
    # More digits than any point's number has are not made a number: Python itself refuses very long ones.
    if not 1 <= len(word) <= MOST_DIGITS or not all([sign in DIGITS for sign in word]):
        raise BadText()
    return int(word)
