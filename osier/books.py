"""Books of shapes: rules that tell how cells hang together."""

from osier.errors import BadItem, BadName, BadPoints, BadRule, Full, Groundless, NoShape
from osier.webs import CELL
from osier.words import is_small_word

MOST_SHAPES = 8
MOST_RULES = 6
OWN_LETTERS = ("a", "b", "c")
INNER_LETTERS = ((), ("p",), ("q",), ("p", "q"))
NO_LETTER = "-"
STEP_LETTERS = ("p", "b")
INTO_LETTERS = ("p", "b", "c")


class Book:
    """Shapes in the order handed in, each with its points and rules."""

    def __init__(self, shapes):
        if len(shapes) > MOST_SHAPES:
            raise Full()
        self.counts = point_counts(shapes)
        for name, points, rules in shapes:
            need_rules(rules, points, self.counts)
        self.shapes = tuple([kept_shape(shape) for shape in shapes])
        self.heights = found_heights(self.shapes)
        for name, points, rules in self.shapes:
            if name not in self.heights:
                raise Groundless(name)

    def shape_rows(self):
        """All (name, points, rules), rules a list."""
        return [(name, points, list(rules)) for name, points, rules in self.shapes]

    def rules(self, name):
        """The rules of the shape."""
        for known, points, rules in self.shapes:
            if known == name:
                return list(rules)
        raise NoShape(name)

    def height(self, name):
        """The least number of rounds in which the shape has a heap."""
        if name not in self.heights:
            raise NoShape(name)
        return self.heights[name]

    def leads_into(self, one, other):
        """True where a stretch of the one shape ahead of the other one is the other one again."""
        steps = self.rules(one)
        others = self.rules(other)
        if self.counts[one] != 2:
            return False
        inner = ((other, INTO_LETTERS[:self.counts[other]]),)
        return all([is_step(one, rule) and joined_rule(rule, inner) in others for rule in steps])

    def __eq__(self, other):
        return isinstance(other, Book) and self.shapes == other.shapes

    def __len__(self):
        return len(self.shapes)

    def __repr__(self):
        return f"Book({', '.join(self.counts)})"


def point_counts(shapes):
    """How many points each shape has; refuse the first shape whose name or number of points is wrong."""
    counts = {}
    for name, points, rules in shapes:
        if name in counts or name == CELL or not is_small_word(name, 2, 8):
            raise BadName(name)
        if not 1 <= points <= len(OWN_LETTERS):
            raise BadPoints(name)
        counts[name] = points
    return counts


def need_rules(rules, points, counts):
    """Refuse a wrong count of rules, then the first rule that is not right."""
    if not 1 <= len(rules) <= MOST_RULES:
        raise BadRule(-1)
    for number, rule in enumerate(rules):
        if not is_right(rule, points, counts):
            raise BadRule(number)


def is_right(rule, points, counts):
    """True where a shape of so many points can have the rule in a book of such shapes."""
    left, right, inner = rule
    if not all([counts.get(name) == len(letters) for name, letters in inner]):
        return False
    firsts = [letters[0] for name, letters in inner]
    if tuple(sorted(firsts)) not in INNER_LETTERS:
        return False
    fields = [left, right]
    used = fields + [letter for name, letters in inner for letter in letters]
    own = list(OWN_LETTERS[:points])
    if not all([letter in own + firsts + [NO_LETTER] for letter in used]):
        return False
    # Inner points stand in the fields, so all that is used is come to, and a is where the way begins.
    return all([first in fields for first in firsts]) and all([letter in used for letter in own[1:]])


def kept_shape(shape):
    """The shape with nothing in it that can be changed behind the call."""
    name, points, rules = shape
    return (name, points, tuple([kept_rule(rule) for rule in rules]))


def kept_rule(rule):
    """The rule with nothing in it that can be changed behind the call."""
    left, right, inner = rule
    return (left, right, tuple([(name, tuple(letters)) for name, letters in inner]))


def found_heights(shapes):
    """The heights of those shapes that have a heap, found round by round."""
    heights = {}
    rounds = 0
    found = grounded(shapes, heights)
    while found:
        rounds += 1
        for name in found:
            heights[name] = rounds
        found = grounded(shapes, heights)
    return heights


def grounded(shapes, heights):
    """The shapes without a height that have a rule whose inner shapes all have one."""
    return [
        name
        for name, points, rules in shapes
        if name not in heights and any([inner_known(rule, heights) for rule in rules])
    ]


def inner_known(rule, heights):
    """True where all inner shapes of the rule have a height."""
    left, right, inner = rule
    return all([name in heights for name, letters in inner])


def is_step(shape, rule):
    """True where the rule goes from a to b by one cell, or by one cell and the shape again."""
    left, right, inner = rule
    fields = [left, right]
    if not inner:
        return fields.count("b") == 1
    return inner == ((shape, STEP_LETTERS),) and fields.count("p") == 1 and "b" not in fields


def joined_rule(rule, inner):
    """The rule with these inner shapes, p in the place of b."""
    left, right = ["p" if field == "b" else field for field in rule[:2]]
    return (left, right, inner)


def need_items(book, web):
    """Refuse the first item whose word or count of targets the book does not have."""
    for place, (word, targets) in enumerate(web.item_rows()):
        if word != CELL and book.counts.get(word) != len(targets) + 1:
            raise BadItem(place)
