"""Whether a web comes to another one by folds, told without making the folds.

A fold is an opening taken back, or a stretch joined to what it leads into. So a web comes to another one just
where the other one's points have places in it, no two alike, and what hangs between these places is, at each of
them, what the item there can become. Points stand in sets of bits: bit k is point k.
"""

from osier.letters import are_inner, bind, own_targets
from osier.webs import CELL, GONE, NOTHING


class Ground:
    """The items of a web, and the shapes that come of them by folds.

    A goal is (shape, points): all of the shape's points have their places. Which points of the web are within the
    shape is told by the goal alone: those that are come to from its first point without going through the others.
    """

    def __init__(self, book, web):
        self.told_book = book
        self.ground_items = web.item_rows()
        self.ways = {}
        self.covers = {}

    def cover(self, goal):
        """The points that become the shape by folds, its first one among them; 0 where they don't."""
        self.settle(self.unfold(goal))
        return self.covers.get(goal, 0)

    def unfold(self, goal):
        """Find the ways to the goal, and to all goals that these take; told are the new goals."""
        fresh = []
        waiting = [goal]
        while waiting:
            asked = waiting.pop()
            if asked not in self.ways:
                self.ways[asked] = self.goal_ways(asked)
                fresh.append(asked)
                for way in self.ways[asked]:
                    waiting.extend(way)
        return fresh

    def settle(self, fresh):
        """Find which of the new goals are come to; what a goal takes mostly stands behind it."""
        settling = True
        while settling:
            settling = False
            for goal in reversed(fresh):
                bits = 0 if goal in self.covers else self.covered(goal)
                if bits:
                    self.covers[goal] = bits
                    settling = True

    def goal_ways(self, goal):
        """The ways to a goal by one fold at its first point, each a list of the goals that it takes."""
        shape, points = goal
        word, targets = self.ground_items[points[0] - 1]
        if (word, targets) == (shape, points[1:]):
            return [[]]
        if word == CELL:
            ways = [rule_way(rule, points, targets) for rule in self.told_book.rules(shape)]
            return [way for way in ways if way is not None]
        # A stretch of a stretch leads into the same shapes, so a join is needed at items of the web alone.
        if self.told_book.leads_into(word, shape) and are_inner(targets, points):
            return [[(shape, targets + points[1:])]]
        return []

    def covered(self, goal):
        """The points of the goal by the first of its ways whose goals are come to, and are unlike; else 0."""
        shape, points = goal
        own = point_bits(points)
        for way in self.ways[goal]:
            parts = [self.covers.get(part, 0) for part in way]
            if all([part > 0 for part in parts]) and are_apart([own] + parts):
                return sum(parts) + (1 << points[0])
        return 0


def rule_way(rule, points, targets):
    """The goals that a cell with these targets takes to become the shape by the rule; None where it can't."""
    left, right, inner = rule
    bound = own_targets(points)
    if not bind(bound, (left, right), targets):
        return None
    if not are_inner([bound[letters[0]] for name, letters in inner], points):
        return None
    return [(name, tuple([bound[letter] for letter in letters])) for name, letters in inner]


def point_bits(points):
    """The set of those of the targets that are points."""
    bits = 0
    for point in points:
        if point > NOTHING:
            bits |= 1 << point
    return bits


def are_apart(parts):
    """True where no point is in two of the sets."""
    seen = 0
    for part in parts:
        if seen & part:
            return False
        seen |= part
    return True


def comes_by_folds(book, web, others):
    """True where the web is one of the others, or comes to one of them by folds."""
    if web in others:
        return True
    ground = Ground(book, web)
    for other in others:
        if is_come_to(ground, web, other):
            return True
    return False


def is_come_to(ground, web, other):
    """True where all points of the other web have places in the web.

    A state is (places, taken): the places of the other web's points that are known so far, and the points of the
    web that are such a place or hang within a shape.
    """
    ground_names = web.name_rows()
    names = other.name_rows()
    if [name for name, target in names] != [name for name, target in ground_names]:
        return False
    start = ({NOTHING: NOTHING, GONE: GONE}, 0)
    state = placed(start, [target for name, target in names], [target for name, target in ground_names])
    states = [] if state is None else [state]
    items = other.item_rows()
    order = item_order(names, items)
    for at, point in enumerate(order):
        after = [found for before in states for found in item_states(ground, before, point, items[point - 1])]
        states = unlike_states(after, asked_points(items, order[at + 1:]))
    return len(states) > 0


def placed(state, targets, grounds):
    """The state in which these targets have these places, or None."""
    places, taken = state
    places = dict(places)
    for target, ground in zip(targets, grounds):
        if target in places:
            if places[target] != ground:
                return None
        elif ground <= NOTHING or (taken >> ground) & 1:
            return None
        else:
            places[target] = ground
            taken |= 1 << ground
    return (places, taken)


def item_order(names, items):
    """All points, each behind one that leads to it: those that leave least to choose, then those found last."""
    known = {}
    for name, target in names:
        known[target] = True
    order = []
    waiting = [point for point in known if point > NOTHING]
    while waiting:
        point = min(waiting[::-1], key=lambda each: many_choices(items[each - 1], known))
        waiting.remove(point)
        order.append(point)
        for target in items[point - 1][1]:
            if target > NOTHING and target not in known:
                known[target] = True
                waiting.append(target)
    return order


def many_choices(item, known):
    """How many targets of the item have to be chosen; a cell tells its targets."""
    word, targets = item
    if word == CELL:
        return 0
    return len([target for target in targets if target > NOTHING and target not in known])


def asked_points(items, order):
    """The points that stand in the items of these points, or are these."""
    asked = {point: True for point in order}
    for point in order:
        for target in items[point - 1][1]:
            asked[target] = True
    return sorted(list(asked))


def unlike_states(states, asked):
    """One of those states each that are alike in all that is asked from now on."""
    kept = {}
    for places, taken in states:
        key = (tuple([places[point] for point in asked if point in places]), taken)
        kept[key] = (places, taken)
    return list(kept.values())


def item_states(ground, state, point, item):
    """The states in which the item at the point has its place, too."""
    word, targets = item
    places, taken = state
    place = places[point]
    if word == CELL:
        ground_word, ground_targets = ground.ground_items[place - 1]
        after = placed(state, targets, ground_targets) if ground_word == CELL else None
        return [] if after is None else [after]
    found = []
    for grounds in ground_choices(state, targets, len(ground.ground_items)):
        after = placed(state, targets, grounds)
        if after is not None:
            found.extend(shape_states(after, place, ground.cover((word, (place, *grounds)))))
    return found


def shape_states(state, place, bits):
    """The state with the points of a shape taken; none where they are none, or others than its first are taken."""
    places, taken = state
    if (bits & taken) != (1 << place):
        return []
    return [(places, taken | bits)]


def ground_choices(state, targets, many):
    """All places that the targets can have: the known one, or each point that is not taken."""
    places, taken = state
    choices = [()]
    for target in targets:
        if target in places:
            options = [places[target]]
        else:
            options = [point for point in range(1, many + 1) if not (taken >> point) & 1]
        choices = [(*choice, option) for choice in choices for option in options]
    return choices
