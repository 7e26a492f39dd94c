"""What the letters of a rule lead to, where the rule is laid on points."""

from osier.books import NO_LETTER, OWN_LETTERS
from osier.webs import NOTHING


def own_targets(points):
    """Targets by letters: the shape's points in order, as far as they are told, and nothing."""
    bound = dict(zip(OWN_LETTERS, points))
    bound[NO_LETTER] = NOTHING
    return bound


def bind(bound, letters, targets):
    """True where each letter leads to its target; a letter that led nowhere yet leads there from now on."""
    for letter, target in zip(letters, targets):
        if bound.setdefault(letter, target) != target:
            return False
    return True


def are_inner(points, own):
    """True where these are points, no two alike, and none of the shape's own."""
    return all([point > NOTHING and point not in own for point in points]) and len(set(points)) == len(points)
